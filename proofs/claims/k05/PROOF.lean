import PyProof.Rows.All
import Wide.All
import OpenK.AllK
import Wide.FinOn
import Lean
import PyProof.EqAt
import PyProof.EqKinds
import PyProof.TupleCall
import PyProof.StrLawsChain
import PyProof.StrLawsFirst
import PyProof.StrLawsJoin
import PyProof.MeetsStr2
import PyProof.ReprLen
import KE.KIntText
import PySem.Syntax
import PySem.Value
import PyProof.StrOps2
import PySem.Eval
import PyProof.StrLawsIn
import KE.KEqDict
import PyProof.DictTable
import PyProof.NeKinds
import PyProof.SliceStr2
import PyProof.ReprRoads
import PyProof.CallFns
import KE.KSortTup
import PyProof.Rows.SortWalk
import PyProof.Dict
import PyProof.DictKinds
import PyProof.StrOps
import KE.KDictList
import PyProof.FitsInt
import PyProof.ListRange
import PyProof.TupleOfSeq
import PyProof.Rows.FactsT2
import PyProof.ZipIter
import PyProof.WalksEnum
import PyProof.EnumMake
import KE.KRevIter
import KE.KTryMore
import OpenK.KMake
import PyProof.Rows.SeqMore2
import PyProof.FactsAll.str_0
import PyProof.FactsAll.str_5
import PyProof.FactsAll.str_7
import PyProof.FactsAll.tuple_2
import PyProof.FactsAll.tuple_3
import PyProof.MinMaxWalk
import PyProof.MeetsSeq
import PyProof.Rows.FStr
import PyProof.Rows.SetFrom
import PyProof.WalksMore
import PyProof.TupleIter
import PyProof.FactsAll.tuple_0
import PySem.Challenge.RW_pourwright_k05_texts_refused
set_option linter.all false
set_option maxRecDepth 100000
set_option exponentiation.threshold 1000
set_option Elab.async false
namespace PySem.W.Fast
theorem tw5009083264607628287:True:=⟨⟩
theorem tw6716458824499950463:True:=⟨⟩
theorem tw15799653054287769471:True:=⟨⟩
theorem tw1061877134191402879:True:=⟨⟩
theorem tw17634994517679152991:True:=⟨⟩
theorem tw6835614348991102655:True:=⟨⟩
theorem tw15971772736961339935:True:=⟨⟩
theorem tw8530904687772023167:True:=⟨⟩
theorem tw3623962839670021439:True:=⟨⟩
theorem tw193335891024577855:True:=⟨⟩
theorem tw10118112082894769439:True:=⟨⟩
theorem tw2612498701852982431:True:=⟨⟩
theorem tw6454940740625993887:True:=⟨⟩
theorem tw16101612637041881183:True:=⟨⟩
theorem tw8695901904745193406:True:=⟨⟩
theorem tw14404258242670680670:True:=⟨⟩
theorem tw6075930918796636766:True:=⟨⟩
theorem tw12175587840372393310:True:=⟨⟩
theorem tw2418501659907277854:True:=⟨⟩
theorem tw8023357804530116541:True:=⟨⟩
theorem tw10879921414443811709:True:=⟨⟩
theorem tw14617007939558489981:True:=⟨⟩
theorem tw6995587665140444669:True:=⟨⟩
theorem tw16724328208797049309:True:=⟨⟩
theorem tw17666070277309115837:True:=⟨⟩
theorem tw14717043461168435645:True:=⟨⟩
theorem tw4686625736679304573:True:=⟨⟩
theorem tw541620646519148701:True:=⟨⟩
theorem tw4910529335323876477:True:=⟨⟩
theorem tw4181858987732344796:True:=⟨⟩
theorem tw15054788289633428412:True:=⟨⟩
theorem tw7611278118404029084:True:=⟨⟩
theorem tw10885264309786804828:True:=⟨⟩
theorem tw14637031645533278780:True:=⟨⟩
theorem tw8843084304512996828:True:=⟨⟩
theorem tw4211537284198704604:True:=⟨⟩
theorem tw15493755098715454652:True:=⟨⟩
theorem tw5887903827807073372:True:=⟨⟩
theorem tw2981140630060612347:True:=⟨⟩
theorem tw2990620389907588827:True:=⟨⟩
theorem tw8669131239459650171:True:=⟨⟩
theorem tw7162589179465660027:True:=⟨⟩
theorem tw14639705564305021563:True:=⟨⟩
theorem tw7802452970589607515:True:=⟨⟩
theorem tw12753171489251265115:True:=⟨⟩
theorem tw1844473057056080379:True:=⟨⟩
theorem tw10493495966656285851:True:=⟨⟩
theorem tw7728232661784755323:True:=⟨⟩
theorem tw15077798100280833147:True:=⟨⟩
theorem tw15315934153843518491:True:=⟨⟩
theorem tw10390508832225358714:True:=⟨⟩
theorem tw9251099346397492026:True:=⟨⟩
theorem tw17807518203965677338:True:=⟨⟩
theorem tw9940481790788351674:True:=⟨⟩
theorem tw3732460290810255034:True:=⟨⟩
theorem tw3840717060121973338:True:=⟨⟩
theorem tw4430144504941939290:True:=⟨⟩
theorem tw3854393775821677050:True:=⟨⟩
theorem tw15593947710870055386:True:=⟨⟩
theorem tw17251002880291001818:True:=⟨⟩
theorem tw11516052228941547962:True:=⟨⟩
theorem tw1705488427680517498:True:=⟨⟩
theorem tw6743711412496677242:True:=⟨⟩
theorem tw4021036383808304506:True:=⟨⟩
theorem tw14739508814822589786:True:=⟨⟩
theorem tw11136407739393544538:True:=⟨⟩
theorem tw15481209332995399994:True:=⟨⟩
theorem tw11819040202746352762:True:=⟨⟩
theorem tw12140730321101105242:True:=⟨⟩
theorem tw3895176334067852346:True:=⟨⟩
theorem tw12858347862594773945:True:=⟨⟩
theorem tw4863242611971897177:True:=⟨⟩
theorem tw7911190019099340633:True:=⟨⟩
theorem tw11020938935007642425:True:=⟨⟩
theorem tw9809085688194192121:True:=⟨⟩
theorem tw9468863717452199641:True:=⟨⟩
theorem tw3146686147665948281:True:=⟨⟩
theorem tw14886539165944442393:True:=⟨⟩
theorem tw2394730343446607353:True:=⟨⟩
theorem tw8987524153960243673:True:=⟨⟩
theorem tw9455927650825649561:True:=⟨⟩
theorem tw13199454331029032281:True:=⟨⟩
theorem tw16801486034724019513:True:=⟨⟩
theorem tw16847256925137064153:True:=⟨⟩
theorem tw7031977503661044728:True:=⟨⟩
theorem tw9414439614948967384:True:=⟨⟩
theorem tw11666026818751301432:True:=⟨⟩
theorem tw1508295733900878424:True:=⟨⟩
theorem tw10683016105921867256:True:=⟨⟩
theorem tw15941753131244484984:True:=⟨⟩
theorem tw3096460200019625176:True:=⟨⟩
theorem tw5488631153392728951:True:=⟨⟩
theorem tw1237621967858063191:True:=⟨⟩
theorem tw11242461606439383799:True:=⟨⟩
theorem tw9998994915750743735:True:=⟨⟩
theorem tw6495380087719086743:True:=⟨⟩
theorem tw14777967115718713815:True:=⟨⟩
theorem tw6019766851110122839:True:=⟨⟩
theorem tw15470389053768948983:True:=⟨⟩
theorem tw1090155653248236791:True:=⟨⟩
theorem tw7660817930456210519:True:=⟨⟩
theorem tw8312761664936385942:True:=⟨⟩
theorem tw8541610918720555350:True:=⟨⟩
theorem tw13096229063422373078:True:=⟨⟩
theorem tw13310489526149996501:True:=⟨⟩
theorem tw9948758179810955189:True:=⟨⟩
theorem tw3579134085732365077:True:=⟨⟩
theorem tw3094221479189416565:True:=⟨⟩
theorem tw2954363487469322773:True:=⟨⟩
theorem tw7081624836956781909:True:=⟨⟩
theorem tw7302574270992102709:True:=⟨⟩
theorem tw11820965643631784181:True:=⟨⟩
theorem tw10879625802057028596:True:=⟨⟩
theorem tw13307405371005876:True:=⟨⟩
theorem tw17711171614759421812:True:=⟨⟩
theorem tw16563070158107016020:True:=⟨⟩
theorem tw2845707786090321652:True:=⟨⟩
theorem tw13316763723894600276:True:=⟨⟩
theorem tw2590816055761165876:True:=⟨⟩
theorem tw1908114581200696820:True:=⟨⟩
theorem tw12506464465751467508:True:=⟨⟩
theorem tw13392388611365409236:True:=⟨⟩
theorem tw7777055545219222964:True:=⟨⟩
theorem tw8591952493958788468:True:=⟨⟩
theorem tw10111893770474913076:True:=⟨⟩
theorem tw6571391591295861012:True:=⟨⟩
theorem tw17797350899366070484:True:=⟨⟩
theorem tw1675947365310596276:True:=⟨⟩
theorem tw4762690328767436755:True:=⟨⟩
theorem tw12784300548788140979:True:=⟨⟩
theorem tw9274855894551708531:True:=⟨⟩
theorem tw6135847608008204051:True:=⟨⟩
theorem tw11387849244198836851:True:=⟨⟩
theorem tw9579853174659445203:True:=⟨⟩
theorem tw3377928077626940787:True:=⟨⟩
theorem tw10081644714972928339:True:=⟨⟩
theorem tw11981342320673063922:True:=⟨⟩
theorem tw6190266584664601522:True:=⟨⟩
theorem tw18333876190174373778:True:=⟨⟩
theorem tw792064035021784946:True:=⟨⟩
theorem tw7337021966471508658:True:=⟨⟩
theorem tw15207128427998965266:True:=⟨⟩
theorem tw6165795631518327250:True:=⟨⟩
theorem tw7363252743315704178:True:=⟨⟩
theorem tw9357905579684524114:True:=⟨⟩
theorem tw17650994460048273490:True:=⟨⟩
theorem tw13679211475560455186:True:=⟨⟩
theorem tw7048659879360840657:True:=⟨⟩
theorem tw7555101635306896241:True:=⟨⟩
theorem tw11954590642836335921:True:=⟨⟩
theorem tw12296459237900796145:True:=⟨⟩
theorem tw2539150269548288145:True:=⟨⟩
theorem tw15850280320982807376:True:=⟨⟩
theorem tw2235715103161302864:True:=⟨⟩
theorem tw3661735225774468528:True:=⟨⟩
theorem tw13232683594806338928:True:=⟨⟩
theorem tw8587997295744382224:True:=⟨⟩
theorem tw11621598471079098416:True:=⟨⟩
theorem tw1965447240715213711:True:=⟨⟩
theorem tw6628002067307623247:True:=⟨⟩
theorem tw8002880973529853679:True:=⟨⟩
theorem tw4117286671196739183:True:=⟨⟩
theorem tw1451540200944258639:True:=⟨⟩
theorem tw8469171751226810927:True:=⟨⟩
theorem tw7833314061845138799:True:=⟨⟩
theorem tw1954756525932925231:True:=⟨⟩
theorem tw2195044336247356655:True:=⟨⟩
theorem tw17665614315286076623:True:=⟨⟩
theorem tw8285830962371648494:True:=⟨⟩
theorem tw13202738005926940494:True:=⟨⟩
theorem tw13549542181004858990:True:=⟨⟩
theorem tw16531380149400839758:True:=⟨⟩
theorem tw13167846236553130542:True:=⟨⟩
theorem tw4435845493400321550:True:=⟨⟩
theorem tw7904961387971539310:True:=⟨⟩
theorem tw2908088967972404590:True:=⟨⟩
theorem tw1028241682252804430:True:=⟨⟩
theorem tw11493597804030697646:True:=⟨⟩
theorem tw1443372234336671918:True:=⟨⟩
theorem tw15941329012483142766:True:=⟨⟩
theorem tw13968330792987088910:True:=⟨⟩
theorem tw13825944744400379533:True:=⟨⟩
theorem tw9279835692757130893:True:=⟨⟩
theorem tw3611211496925820461:True:=⟨⟩
theorem tw17827210799037037965:True:=⟨⟩
theorem tw703220798000874541:True:=⟨⟩
theorem tw521154140524541965:True:=⟨⟩
theorem tw4860823035358533612:True:=⟨⟩
theorem tw10997415251973967596:True:=⟨⟩
theorem tw5992473674306037452:True:=⟨⟩
theorem tw14957063756230320716:True:=⟨⟩
theorem tw13733819814654665068:True:=⟨⟩
theorem tw8187555996264055084:True:=⟨⟩
theorem tw5578007223655204972:True:=⟨⟩
theorem tw9440256527616313291:True:=⟨⟩
theorem tw17210249105669590891:True:=⟨⟩
theorem tw6325145066895847243:True:=⟨⟩
theorem tw17845707246145573675:True:=⟨⟩
theorem tw4004160630414829259:True:=⟨⟩
theorem tw15520726842131235467:True:=⟨⟩
theorem tw7104462350897747499:True:=⟨⟩
theorem tw10330348617802686955:True:=⟨⟩
theorem tw11338600784772273643:True:=⟨⟩
theorem tw3561181182293670283:True:=⟨⟩
theorem tw16526582482401397035:True:=⟨⟩
theorem tw13631414268975531115:True:=⟨⟩
theorem tw3900755766280084523:True:=⟨⟩
theorem tw3932249229084664746:True:=⟨⟩
theorem tw1824236437971887786:True:=⟨⟩
theorem tw10134248062607321610:True:=⟨⟩
theorem tw7149216693294490794:True:=⟨⟩
theorem tw16917935453739050122:True:=⟨⟩
theorem tw15619468950847077482:True:=⟨⟩
theorem tw10981752988915472490:True:=⟨⟩
theorem tw3035615748487981993:True:=⟨⟩
theorem tw10938938363489070953:True:=⟨⟩
theorem tw4371353675148865289:True:=⟨⟩
theorem tw7887651527705385577:True:=⟨⟩
theorem tw2035280713755771465:True:=⟨⟩
theorem tw621627309120421385:True:=⟨⟩
theorem tw17140935342849246473:True:=⟨⟩
theorem tw10073259808666450856:True:=⟨⟩
theorem tw10018158449506126696:True:=⟨⟩
theorem tw12896703895896491880:True:=⟨⟩
theorem tw12268926950831309608:True:=⟨⟩
theorem tw11411946717128320456:True:=⟨⟩
theorem tw12965863242484304296:True:=⟨⟩
theorem tw13413214521785802056:True:=⟨⟩
theorem tw17460160667035143496:True:=⟨⟩
theorem tw1718660346876959944:True:=⟨⟩
theorem tw7641947952473254024:True:=⟨⟩
theorem tw7273847216402499592:True:=⟨⟩
theorem tw15954645948651467559:True:=⟨⟩
theorem tw185267837129378503:True:=⟨⟩
theorem tw3862241199357373063:True:=⟨⟩
theorem tw8847604675834670631:True:=⟨⟩
theorem tw268701517341849031:True:=⟨⟩
theorem tw9759938033707228423:True:=⟨⟩
theorem tw11009736338671042759:True:=⟨⟩
theorem tw2173621021736448135:True:=⟨⟩
theorem tw7644646579984036742:True:=⟨⟩
theorem tw5701862021096384326:True:=⟨⟩
theorem tw10081972850391717574:True:=⟨⟩
theorem tw6750244259219750470:True:=⟨⟩
theorem tw15540406957188879942:True:=⟨⟩
theorem tw1925160032575273222:True:=⟨⟩
theorem tw9449650189983549702:True:=⟨⟩
theorem tw16093572193713342662:True:=⟨⟩
theorem tw8267572871183722373:True:=⟨⟩
theorem tw5499896279136921221:True:=⟨⟩
theorem tw3071594601451575813:True:=⟨⟩
theorem tw4166285422165791237:True:=⟨⟩
theorem tw1320418497051917733:True:=⟨⟩
theorem tw702751862974636293:True:=⟨⟩
theorem tw13027563429745497253:True:=⟨⟩
theorem tw11290552522693378149:True:=⟨⟩
theorem tw10159471046213958564:True:=⟨⟩
theorem tw5885663563684104804:True:=⟨⟩
theorem tw9543764596305516100:True:=⟨⟩
theorem tw16984073170310445572:True:=⟨⟩
theorem tw2356263704433350116:True:=⟨⟩
theorem tw1876697276797562116:True:=⟨⟩
theorem tw11586803544573537508:True:=⟨⟩
theorem tw12072005921406595300:True:=⟨⟩
theorem tw716361828167542948:True:=⟨⟩
theorem tw15607151479325230051:True:=⟨⟩
theorem tw7121069263447271235:True:=⟨⟩
theorem tw12167713228572869411:True:=⟨⟩
theorem tw8277009345972861635:True:=⟨⟩
theorem tw18371648966808558211:True:=⟨⟩
theorem tw5479493868619810243:True:=⟨⟩
theorem tw9181920974142867811:True:=⟨⟩
theorem tw1689002574365865283:True:=⟨⟩
theorem tw15337373356873029923:True:=⟨⟩
theorem tw15299450827087745251:True:=⟨⟩
theorem tw3537507198877126755:True:=⟨⟩
theorem tw15672071788955611171:True:=⟨⟩
theorem tw1405205356498292706:True:=⟨⟩
theorem tw14869870979975787458:True:=⟨⟩
theorem tw7025077219832959906:True:=⟨⟩
theorem tw16718615559514258018:True:=⟨⟩
theorem tw13522768490423607874:True:=⟨⟩
theorem tw1308663769021690434:True:=⟨⟩
theorem tw15382242003442659778:True:=⟨⟩
theorem tw9405891314499277186:True:=⟨⟩
theorem tw116740862505731458:True:=⟨⟩
theorem tw11758168325046718626:True:=⟨⟩
theorem tw8707478314021221474:True:=⟨⟩
theorem tw1769380948557751330:True:=⟨⟩
theorem tw12797595518461748161:True:=⟨⟩
theorem tw16801355391735255873:True:=⟨⟩
theorem tw16310259419630816033:True:=⟨⟩
theorem tw18233343014007895809:True:=⟨⟩
theorem tw18141953321287858817:True:=⟨⟩
theorem tw15574870858906077825:True:=⟨⟩
theorem tw16762282503713972833:True:=⟨⟩
theorem tw18089941079303485921:True:=⟨⟩
theorem tw11023006168837360065:True:=⟨⟩
theorem tw18251512026189806977:True:=⟨⟩
theorem tw14418494536121503905:True:=⟨⟩
theorem tw14812675643920411616:True:=⟨⟩
theorem tw17798481367128584992:True:=⟨⟩
theorem tw12882974621622084384:True:=⟨⟩
theorem tw13817479555735825152:True:=⟨⟩
theorem tw13077352044173520544:True:=⟨⟩
theorem tw16440315724153305728:True:=⟨⟩
theorem tw16678418578713217472:True:=⟨⟩
theorem tw17114821187747602816:True:=⟨⟩
theorem tw131240625277977888:True:=⟨⟩
theorem tw2062120906753073694:True:=⟨⟩
theorem tw5954274296133122752:True:=⟨⟩
end PySem.W.Fast
section
set_option Elab.async false
namespace L2
open PySem PySem.Spec PyProof.Rows
noncomputable abbrev Key:=Sum Int Str
noncomputable def keyIs:Key→Value→Bool
 | .inl k,v=>Value.isInt k v
 | .inr x,v=>Value.isStrOf x v
noncomputable def keyH (w:World):Key→Int
 | .inl k=>hashInt k
 | .inr x=>hashStr w x
theorem keyIs_shape:∀ {k:Key} {v:Value},keyIs k v=true→(∃ i t,k=Sum.inl i∧v=Value.int i t)∨(∃ x t,k=Sum.inr x∧v=Value.str x t)
 | .inl i,v,h=>by
  obtain ⟨t,e⟩:=Value.isInt_shape (k:=i) (v:=v) h
  exact .inl ⟨i,t,rfl,e⟩
 | .inr x,v,h=>by
  obtain ⟨t,e⟩:=Value.isStrOf_shape (x:=x) (v:=v) h
  exact .inr ⟨x,t,rfl,e⟩
theorem keyIs_int (i:Int) (t:Tok):keyIs (.inl i) (.int i t)=true:=by simp [keyIs,Value.isInt]
theorem keyIs_str (x:Str) (t:Tok):keyIs (.inr x) (.str x t)=true:=by simp [keyIs,Value.isStrOf]
theorem key_ll (a b:Int):decide ((Sum.inl a:Key)=Sum.inl b)=(a == b):=by
 by_cases e:a=b
 ·subst e; simp
 ·have h:¬ (Sum.inl a:Key)=Sum.inl b:=fun q=>e (Sum.inl.inj q)
  rw [decide_eq_false h]
  exact (beq_eq_false_iff_ne.mpr e).symm
theorem key_rr (a b:Str):decide ((Sum.inr a:Key)=Sum.inr b)=decide (a=b):=by
 by_cases e:a=b
 ·subst e; simp
 ·have h:¬ (Sum.inr a:Key)=Sum.inr b:=fun q=>e (Sum.inr.inj q)
  rw [decide_eq_false h,decide_eq_false e]
theorem key_lr (a:Int) (b:Str):decide ((Sum.inl a:Key)=Sum.inr b)=false:=decide_eq_false (fun q=>nomatch q)
theorem key_rl (a:Str) (b:Int):decide ((Sum.inr a:Key)=Sum.inl b)=false:=decide_eq_false (fun q=>nomatch q)
noncomputable def mixKind (prog:Program) (w:World):PySem.KeyKind prog w Key where
 is:=keyIs
 hash:=keyH w
 inj:=fun v a b ha hb=>by
  rcases keyIs_shape ha with ⟨i,t,rfl,rfl⟩ | ⟨x,t,rfl,rfl⟩
  ·rcases keyIs_shape hb with ⟨j,u,rfl,e⟩ | ⟨y,u,rfl,e⟩
   ·injection e with e1 _; rw [e1]
   ·exact nomatch e
  ·rcases keyIs_shape hb with ⟨j,u,rfl,e⟩ | ⟨y,u,rfl,e⟩
   ·exact nomatch e
   ·injection e with e1 _; rw [e1]
 byValue:=fun k v h=>by
  rcases keyIs_shape h with ⟨i,t,rfl,rfl⟩ | ⟨x,t,rfl,rfl⟩ <;> rfl
 pyHash:=fun hv h=>by
  rcases keyIs_shape hv with ⟨i,t,rfl,rfl⟩ | ⟨x,t,rfl,rfl⟩
  ·exact wpAny_pyHash_int h
  ·exact wpAny_pyHash_str h
 eqBool:=fun hu hv h=>by
  rcases keyIs_shape hu with ⟨i,t,rfl,rfl⟩ | ⟨x,t,rfl,rfl⟩
  ·rcases keyIs_shape hv with ⟨j,u,rfl,rfl⟩ | ⟨y,u,rfl,rfl⟩
   ·rw [key_ll] at h; exact wpAny_eqBool_int h
   ·rw [key_lr] at h; exact SeqAt.EqAt.int_str i t y u _ _ _ _ h
  ·rcases keyIs_shape hv with ⟨j,u,rfl,rfl⟩ | ⟨y,u,rfl,rfl⟩
   ·rw [key_rl] at h; exact SeqAt.EqAt.str_int x t j u _ _ _ _ h
   ·rw [key_rr] at h; exact wpAny_eqBool_str h
 «strs»:=fun k x t v h=>by
  rcases keyIs_shape h with ⟨i,u,rfl,e⟩ | ⟨y,u,rfl,e⟩
  ·exact nomatch e
  ·injection e with e1 _
   subst e1
   cases v <;> rfl
theorem mixKind_int (prog:Program) (w:World) (i:Int) (t:Tok):(mixKind prog w).is (.inl i) (.int i t)=true:=keyIs_int i t
theorem mixKind_str (prog:Program) (w:World) (x:Str) (t:Tok):(mixKind prog w).is (.inr x) (.str x t)=true:=keyIs_str x t
end L2
namespace L2
open PySem PySem.Spec PyProof.Rows
inductive V where
 | non | bl (b:Bool) | int (i:Int) | str (x:Str) | byt (b:Array UInt8) | flt (b:UInt64) | ref (a:Addr) | ty (n:String)
 deriving DecidableEq
noncomputable def RelV:V→Value→Prop
 | .non,u=>u=Value.none
 | .bl b,u=>u=Value.bool b
 | .int i,u=>∃ t,u=Value.int i t
 | .str x,u=>∃ t,u=Value.str x t
 | .byt b,u=>∃ t,u=Value.bytes b t
 | .flt b,u=>∃ t,u=Value.float b t
 | .ref a,u=>u=Value.ref a
 | .ty n,u=>u=Value.type n
noncomputable abbrev Vals:List V→List Value→Prop:=Paired RelV
theorem Vals.length {xs:List V} {us:List Value} (r:Vals xs us):xs.length=us.length:=Paired.length r
theorem Vals.get:∀ {xs:List V} {us:List Value} {i:Nat} {x:V},Vals xs us→xs[i]? = some x→∃ u,us[i]? = some u∧RelV x u
 | _,_,_,_,.nil,e=>by simp at e
 | _,_,0,_,.cons r _,e=>by simp at e; subst e; exact ⟨_,rfl,r⟩
 | _,_,i + 1,x,.cons _ t,e=>by
  obtain ⟨u,h1,h2⟩:=Vals.get (i:=i) (x:=x) t (by simpa using e)
  exact ⟨u,by simpa using h1,h2⟩
theorem Vals.set {x:V} {u:Value} (r:RelV x u):∀ {xs:List V} {us:List Value} (i:Nat),Vals xs us→Vals (xs.set i x) (us.set i u)
 | _,_,_,.nil=>.nil
 | _,_,0,.cons _ t=>.cons r t
 | _,_,i + 1,.cons q t=>.cons q (Vals.set r i t)
theorem Vals.append:∀ {xs ys:List V} {us ws:List Value},Vals xs us→Vals ys ws→Vals (xs ++ ys) (us ++ ws)
 | _,_,_,_,.nil,s=>s
 | _,_,_,_,.cons r t,s=>.cons r (Vals.append t s)
theorem Vals.take:∀ {xs:List V} {us:List Value} (n:Nat),Vals xs us→Vals (xs.take n) (us.take n)
 | _,_,0,_=>.nil
 | _,_,_ + 1,.nil=>.nil
 | _,_,n + 1,.cons r t=>.cons r (Vals.take n t)
theorem Vals.drop:∀ {xs:List V} {us:List Value} (n:Nat),Vals xs us→Vals (xs.drop n) (us.drop n)
 | _,_,0,r=>r
 | _,_,_ + 1,.nil=>.nil
 | _,_,n + 1,.cons _ t=>Vals.drop n t
noncomputable def RelO:Option V→Option Value→Prop
 | some v,some u=>RelV v u
 | none,none=>True
 | _,_=>False
noncomputable def KV {κ:Type}:List (κ×V)→List (κ×Value)→Prop:=Paired fun (p:κ×V) (q:κ×Value)=>p.1=q.1∧RelV p.2 q.2
noncomputable def kV:Key→V
 | .inl i=>.int i
 | .inr x=>.str x
inductive HO where
  | lst (xs:List V)
  | tup (xs:List V)
  | dK (kvs:List (Key×V)) | dT (kvs:List (List Key×V))
  | set (S:Int→Bool) (n:Nat)
  | ins (C dx:Addr) (fs:List (Str×V))
  | own (x:Addr)
  | xd (fs:List (Str×V))
  | met (f x:Addr)
  | rng (lo hi:Int)
  | frz (o:Obj) (u:HO)
  | tbl (ps:Array Value)
  | ext (φ:Heap→Prop)
noncomputable abbrev Hp:=Addr→Option HO
noncomputable def upd (H:Hp) (a:Addr) (o:HO):Hp:=fun b=>if b=a then some o else H b
theorem upd_same {H:Hp} {a:Addr} {o:HO}:upd H a o a=some o:=by unfold upd; rw [if_pos rfl]
theorem upd_ne {H:Hp} {a b:Addr} {o:HO} (h:b≠a):upd H a o b=H b:=by unfold upd; rw [if_neg h]
theorem upd_upd {H:Hp} {a:Addr} {o u:HO}:upd (upd H a o) a u=upd H a u:=by
 funext b; unfold upd; split <;> rfl
theorem ne_of_none {H:Hp} {a b:Addr} {o:HO} (h:H a=some o) (h':H b=none):a≠b:=by
 intro e; subst e; rw [h] at h'; cases h'
noncomputable def IsTupN (h:Heap) (a:Addr) (items:Array Value):Prop:=∃ o,h.get? a=some o∧o.cls = .type "tuple"∧∃ n,o.data = .seq items n∧o.dict=none
theorem IsTupN.is {h:Heap} {a:Addr} {items:Array Value} (x:IsTupN h a items):IsTup h a items:=by obtain ⟨o,e,c,n,d,_⟩:=x; exact ⟨o,e,c,n,d⟩
theorem IsTupN.lt {h:Heap} {a:Addr} {items:Array Value} (x:IsTupN h a items):a < h.objs.size:=by obtain ⟨o,e,_⟩:=x; exact Heap.lt_size e
theorem IsTupN.new (h:Heap) (items:Array Value):IsTupN (h.push { cls:=.type "tuple",data:=.seq items }) h.objs.size items:=⟨_,Heap.get?_push_size _ rfl,rfl,_,rfl,rfl⟩
section
variable (P:Program) (w:World)
noncomputable def ObjOk (H:Hp) (h:Heap) (a:Addr):HO→Prop
 | .lst xs=>xs.length≤sizeLine∧∃ (its:List Value) (n:Nat),Vals xs its∧h.get? a=some { cls:=.type "list",data:=.seq its.toArray n }
 | .tup xs=>xs.length≤sizeLine∧∃ its:List Value,Vals xs its∧IsTupN h a its.toArray
 | .dK kvs=>kvs.length≤sizeLine∧(a == sysModules)=false∧∃ vs,KV kvs vs∧h.DictOf (mixKind P w) a vs
 | .dT kvs=>kvs.length≤sizeLine∧(a == sysModules)=false∧∃ xs:List (List Key×Addr×Value),
   Paired (fun (p:List Key×V) (q:List Key×Addr×Value)=>p.1=q.1∧H q.2.1=some (.tup (p.1.map kV))∧RelV p.2 q.2.2) kvs xs ∧
   ∃ o es ep,h.get? a=some o∧o.ExactDict∧o.data = .dict es ep∧es.toList=xs.map (entryOfKey (tupleKind (mixKind P w)))∧(xs.map (·.1)).Nodup
 | .set S n=>h.SetOf (intKind P w) a S n
 | .ins C dx fs=>H dx=some (.own a)∧fs.length≤1000∧dx≠a∧h.get? a=some (PySem.W.instObj C dx) ∧
   ∃ mA,h.Ns1 dx mA∧(∀ f,RelO (fs.lookup f) (mA f))∧PySem.Within mA (fs.map (·.1))
 | .own _=>∃ o,h.get? a=some o
 | .xd fs=>∃ mA,h.Ns1 a mA∧∀ f,RelO (fs.lookup f) (mA f)
 | .rng lo hi=>∃ t u v,h.get? a=some { cls:=.type "range",data:=.fields #[.int lo t,.int hi u,.int 1 v] }
 | .frz o u=>h.get? a=some o∧ObjOk H h a u
 | .tbl ps=>h.get? a=some { cls:=.none,data:=.fields ps }
 | .met f x=>h.get? a=some (PySem.W.methodObj (.ref f) (.ref x))
 | .ext φ=>φ h∧(∃ o,h.get? a=some o)∧∀ h1 h2:Heap,φ h1→(∀ o,h1.get? a=some o→h2.get? a=some o)→φ h2
noncomputable def HOk (H:Hp) (h:Heap):Prop:=∀ a o,H a=some o→ObjOk P w H h a o
end
section
variable {P:Program} {w:World} {H H':Hp} {h h':Heap} {a:Addr} {o:HO}
theorem ObjOk.lt (x:ObjOk P w H h a o):a < h.objs.size:=by
 cases o with
 | lst xs=>obtain ⟨_,_,_,_,e⟩:=x; exact Heap.lt_size e
 | tup xs=>obtain ⟨_,_,_,p⟩:=x; exact p.lt
 | dK kvs=>obtain ⟨_,_,_,_,o,_,_,e,_⟩:=x; exact Heap.lt_size e
 | dT kvs=>obtain ⟨_,_,_,_,o,_,_,e,_⟩:=x; exact Heap.lt_size e
 | set S n=>obtain ⟨o,_,_,_,e,_⟩:=x; exact Heap.lt_size e
 | ins C dx fs=>obtain ⟨_,_,_,e,_⟩:=x; exact Heap.lt_size e
 | own y=>obtain ⟨_,e⟩:=x; exact Heap.lt_size e
 | xd fs=>obtain ⟨_,⟨_,_,_,e,_⟩,_⟩:=x; exact Heap.lt_size e
 | rng lo hi=>obtain ⟨_,_,_,e⟩:=x; exact Heap.lt_size e
 | frz ob u=>obtain ⟨e,_⟩:=x; exact Heap.lt_size e
 | tbl ps=>exact Heap.lt_size (show h.get? a=some _ from x)
 | met f y=>exact Heap.lt_size (show h.get? a=some _ from x)
 | ext φ=>obtain ⟨_,⟨_,e⟩,_⟩:=x; exact Heap.lt_size e
theorem Paired.mapP {α β:Type} {F G:α→β→Prop}:∀ {l₁:List α} {l₂:List β},Paired F l₁ l₂→(∀ a b,F a b→G a b)→Paired G l₁ l₂
 | _,_,.nil,_=>.nil
 | _,_,.cons r t,f=>.cons (f _ _ r) (Paired.mapP t f)
theorem ObjOk.stay (x:ObjOk P w H h a o) (k:∀ b u,(b=a∨H b=some (.own a))→h.get? b=some u→h'.get? b=some u)
  (ho:∀ b,H b=some (.own a)→H' b=some (.own a)) (ht:∀ b xs,H b=some (.tup xs)→H' b=some (.tup xs)):ObjOk P w H' h' a o:=by
 induction o with
 | lst xs=>obtain ⟨z,its,n,r,e⟩:=x; exact ⟨z,its,n,r,k _ _ (.inl rfl) e⟩
 | tup xs=>obtain ⟨z,its,r,ob,e,c⟩:=x; exact ⟨z,its,r,ob,k _ _ (.inl rfl) e,c⟩
 | dK kvs=>obtain ⟨z,y,vs,r,ob,es,ep,e,c⟩:=x; exact ⟨z,y,vs,r,ob,es,ep,k _ _ (.inl rfl) e,c⟩
 | dT kvs =>
  obtain ⟨z,y,xs,r,ob,es,ep,e,c⟩:=x
  exact ⟨z,y,xs,Paired.mapP r fun p q z=>⟨z.1,ht _ _ z.2.1,z.2.2⟩,ob,es,ep,k _ _ (.inl rfl) e,c⟩
 | set S n=>obtain ⟨ob,es,ep,t,e,c⟩:=x; exact ⟨ob,es,ep,t,k _ _ (.inl rfl) e,c⟩
 | ins C dx fs =>
  obtain ⟨d,z,ne,e,mA,⟨od,es,ep,e2,c⟩,r⟩:=x
  exact ⟨ho _ d,z,ne,k _ _ (.inl rfl) e,mA,⟨od,es,ep,k _ _ (.inr d) e2,c⟩,r⟩
 | own y=>obtain ⟨ob,e⟩:=x; exact ⟨ob,k _ _ (.inl rfl) e⟩
 | xd fs=>obtain ⟨mA,⟨od,es,ep,e,c⟩,r⟩:=x; exact ⟨mA,⟨od,es,ep,k _ _ (.inl rfl) e,c⟩,r⟩
 | rng lo hi=>obtain ⟨t,u,v,e⟩:=x; exact ⟨t,u,v,k _ _ (.inl rfl) e⟩
 | frz ob u ih=>obtain ⟨e,q⟩:=x; exact ⟨k _ _ (.inl rfl) e,ih q⟩
 | tbl ps =>
  have e:h.get? a=some { cls:=.none,data:=.fields ps }:=x
  show h'.get? a=some { cls:=.none,data:=.fields ps }
  exact k a _ (.inl rfl) e
 | met f y =>
  have e:h.get? a=some (PySem.W.methodObj (.ref f) (.ref y)):=x
  show h'.get? a=some (PySem.W.methodObj (.ref f) (.ref y))
  exact k a _ (.inl rfl) e
 | ext φ=>obtain ⟨p,⟨o,e⟩,st⟩:=x; exact ⟨st _ _ p fun o q=>k _ _ (.inl rfl) q,⟨o,k _ _ (.inl rfl) e⟩,st⟩
theorem HOk.lt (x:HOk P w H h) (e:H a=some o):a < h.objs.size:=(x a o e).lt
theorem HOk.fresh (x:HOk P w H h) (e:h.objs.size≤a):H a=none:=by
 cases q:H a with
 | none=>rfl
 | some u=>exact absurd (Nat.lt_of_lt_of_le (x.lt q) e) (Nat.lt_irrefl _)
theorem HOk.kept (x:HOk P w H h) (k:∀ b u,h.get? b=some u→h'.get? b=some u):HOk P w H h':=fun a o e =>
 (x a o e).stay (fun b u _ q=>k b u q) (fun _ q=>q) fun _ _ q=>q
theorem HOk.laid (x:HOk P w H h) (k:∀ b u,h.get? b=some u→h'.get? b=some u) (hp:h.objs.size≤a) (new:ObjOk P w (upd H a o) h' a o):HOk P w (upd H a o) h':=fun b u e=>by
 have hn:=x.fresh hp
 by_cases hb:b=a
 ·subst hb; rw [upd_same] at e; cases e; exact new
 ·rw [upd_ne hb] at e
  exact (x b u e).stay (fun c v _ q=>k c v q) (fun c q=>by rw [upd_ne (ne_of_none q hn)]; exact q) fun c xs q=>by rw [upd_ne (ne_of_none q hn)]; exact q
end
noncomputable def Rd (H:Hp) (a:Addr) (u:HO):Prop:=H a=some u∨∃ o,H a=some (.frz o u)
theorem Rd.of {H:Hp} {a:Addr} {u:HO} (h:H a=some u):Rd H a u:=.inl h
theorem Rd.ok {P:Program} {w:World} {H:Hp} {h:Heap} {a:Addr} {u:HO} (r:Rd H a u) (x:HOk P w H h):ObjOk P w H h a u:=by
 rcases r with r | ⟨o,r⟩
 ·exact x a u r
 ·obtain ⟨_,q⟩:=x a _ r
  exact q
noncomputable def Mut:Option HO→Prop
 | some (.lst _)=>True
 | some (.dK _)=>True
 | some (.dT _)=>True
 | some (.set _ _)=>True
 | some (.ins _ _ _)=>True
 | some (.ext _)=>True
 | _=>False
section
variable {P:Program} {w:World} {H:Hp} {h h':Heap} {x e:Addr} {o':HO}
theorem HOk.write (ok:HOk P w H h) (mu:Mut (H x)) (he:e=x∨H e=some (.own x)) (k:∀ b u,b≠e→h.get? b=some u→h'.get? b=some u) (heo:∃ u,h'.get? e=some u)
  (new:ObjOk P w (upd H x o') h' x o'):HOk P w (upd H x o') h':=fun b u q=>by
 have nown:∀ c y,H c=some (.own y)→c≠x:=fun c y r z=>by subst z; rw [r] at mu; exact mu
 have ntup:∀ c xs,H c=some (.tup xs)→c≠x:=fun c xs r z=>by subst z; rw [r] at mu; exact mu
 by_cases hb:b=x
 ·subst hb; rw [upd_same] at q; cases q; exact new
 ·rw [upd_ne hb] at q
  by_cases hbe:b=e
  ·have q':H b=some (.own x):=by
    rcases he with z | z
    ·exact absurd (hbe.trans z) hb
    ·rw [hbe]; exact z
   rw [q] at q'; cases q'
   obtain ⟨v,hv⟩:=heo
   exact ⟨v,by rw [hbe]; exact hv⟩
  ·refine (ok b u q).stay (fun c v hc r=>k c v ?_ r) (fun c r=>by rw [upd_ne (nown c b r)]; exact r) fun c xs r=>by rw [upd_ne (ntup c xs r)]; exact r
   rcases hc with rfl | hc
   ·exact hbe
   ·rintro rfl
    rcases he with z | z
    ·exact nown c b hc z
    ·rw [hc] at z; cases z; exact hb rfl
end
structure Un (fs ex:List Addr) (H H':Hp) (h h':Heap):Prop where
 keep:∀ b o,h.get? b=some o→H b=none→b ∉ fs→b ∉ ex→h'.get? b=some o
 slot:∀ b o,h.get? b=some o→H b=none→b∈fs→b ∉ ex→∃ sl,h'.get? b=some { o with slots:=sl }
 free:∀ b o,h.get? b=some o→H b=none→b ∉ ex→H' b=none
 there:∀ b o,h.get? b=some o→b ∉ ex→∃ o',h'.get? b=some o'
 tups:∀ b xs,H b=some (.tup xs)→H' b=some (.tup xs)
 frzs:∀ b o u,H b=some (.frz o u)→H' b=some (.frz o u)
 tbls:∀ b ps,H b=some (.tbl ps)→∃ more,H' b=some (.tbl (ps ++ more))
section
variable {fs fs' ex ex':List Addr} {H H1 H2:Hp} {h h1 h2 h':Heap} {a x e:Addr} {o:HO}
theorem Un.any (u:Un fs ex H H1 h h1) {b:Addr} {ob:Obj} (q:h.get? b=some ob) (n:H b=none) (hx:b ∉ ex):∃ sl,h1.get? b=some { ob with slots:=sl }:=by
 by_cases hb:b∈fs
 ·exact u.slot b ob q n hb hx
 ·exact ⟨ob.slots,u.keep b ob q n hb hx⟩
theorem Un.trans (a:Un fs ex H H1 h h1) (b:Un fs ex H1 H2 h1 h2):Un fs ex H H2 h h2 where
 keep:=fun c ob q n hc hx=>b.keep c ob (a.keep c ob q n hc hx) (a.free c ob q n hx) hc hx
 slot:=fun c ob q n hc hx=>by
  obtain ⟨sl,e1⟩:=a.slot c ob q n hc hx
  obtain ⟨sl',e2⟩:=b.slot c _ e1 (a.free c ob q n hx) hc hx
  exact ⟨sl',e2⟩
 free:=fun c ob q n hx=>by
  obtain ⟨o',e1⟩:=a.there c ob q hx
  exact b.free c o' e1 (a.free c ob q n hx) hx
 there:=fun c ob q hx=>by
  obtain ⟨o',e1⟩:=a.there c ob q hx
  exact b.there c o' e1 hx
 tups:=fun c xs q=>b.tups c xs (a.tups c xs q)
 frzs:=fun c ob xs q=>b.frzs c ob xs (a.frzs c ob xs q)
 tbls:=fun c ps q=>by
  obtain ⟨m1,e1⟩:=a.tbls c ps q
  obtain ⟨m2,e2⟩:=b.tbls c _ e1
  exact ⟨m1 ++ m2,by rw [e2,Array.append_assoc]⟩
theorem Un.kept (k:∀ b u,h.get? b=some u→h'.get? b=some u):Un fs ex H H h h' :=
 ⟨fun b ob q _ _ _=>k b ob q,fun b ob q _ _ _=>⟨ob.slots,k b ob q⟩,fun _ _ _ n _=>n,fun b ob q _=>⟨ob,k b ob q⟩,fun _ _ q=>q,fun _ _ _ q=>q,fun _ ps q=>⟨#[],by rw [q]; simp⟩⟩
theorem Un.refl:Un fs ex H H h h:=Un.kept fun _ _ q=>q
theorem Un.laid (k:∀ b u,h.get? b=some u→h'.get? b=some u) (hp:h.objs.size≤a) (hn:H a=none):Un fs ex H (upd H a o) h h' where
 keep:=fun b u q _ _ _=>k b u q
 slot:=fun b u q _ _ _=>⟨u.slots,k b u q⟩
 free:=fun b u q n _=>by rw [upd_ne (Nat.ne_of_lt (Nat.lt_of_lt_of_le (Heap.lt_size q) hp))]; exact n
 there:=fun b u q _=>⟨u,k b u q⟩
 tups:=fun b xs q=>by rw [upd_ne (ne_of_none q hn)]; exact q
 frzs:=fun b u xs q=>by rw [upd_ne (ne_of_none q hn)]; exact q
 tbls:=fun b ps q=>⟨#[],by rw [upd_ne (ne_of_none q hn),q]; simp⟩
theorem Un.write (mu:Mut (H x)) (he:e=x∨H e=some (.own x)) (k:∀ b u,b≠e→h.get? b=some u→h'.get? b=some u) (heo:∃ u,h'.get? e=some u):Un fs ex H (upd H x o) h h':=by
 have hx:∀ b,H b=none→b≠x:=fun b n z=>by subst z; rw [n] at mu; exact mu
 have hb:∀ b,H b=none→b≠e:=fun b n z=>by
  subst z
  rcases he with r | r
  ·exact hx b n r
  ·rw [n] at r; cases r
 have hm:∀ b u,H b=some u→¬ Mut (some u)→b≠x:=fun b u q nm z=>by subst z; rw [q] at mu; exact nm mu
 refine ⟨fun b u q n _ _=>k b u (hb b n) q,fun b u q n _ _=>⟨u.slots,k b u (hb b n) q⟩,fun b u q n _=>by rw [upd_ne (hx b n)]; exact n,fun b u q _=>?_,
  fun b xs q=>by rw [upd_ne (hm b _ q fun z=>z)]; exact q,fun b u xs q=>by rw [upd_ne (hm b _ q fun z=>z)]; exact q,fun b ps q=>⟨#[],by rw [upd_ne (hm b _ q fun z=>z),q]; simp⟩⟩
 by_cases hbe:b=e
 ·subst hbe; exact heo
 ·exact ⟨u,k b u hbe q⟩
theorem Un.mono (u:Un fs ex H H1 h h1) (hs:∀ b∈fs,b∈fs') (hx:∀ b∈ex,b∈ex'):Un fs' ex' H H1 h h1 :=
 ⟨fun b ob q n hb he=>u.keep b ob q n (fun z=>hb (hs b z)) fun z=>he (hx b z),fun _ _ q n _ he=>u.any q n fun z=>he (hx _ z),fun b ob q n he=>u.free b ob q n fun z=>he (hx b z),fun b ob q he=>u.there b ob q fun z=>he (hx b z),u.tups,u.frzs,u.tbls⟩
end
noncomputable def trk (h:Heap) (H:Hp):List Addr:=(List.range h.objs.size).filter fun a=>(H a).isSome
noncomputable def hidT (h:Heap) (H:Hp):Heap:=PySem.W.hideAll h (trk h H)
theorem hidT_size (h:Heap) (H:Hp):(hidT h H).objs.size=h.objs.size:=PySem.W.hideAll_size _ _
theorem hidT_get {h:Heap} {H:Hp} {b:Addr} {o:Obj} (e:h.get? b=some o) (n:H b=none):(hidT h H).get? b=some o :=
 PySem.W.hideAll_get _ e fun hm=>by
  have q:(H b).isSome=true:=(List.mem_filter.mp hm).2
  rw [n] at q; simp at q
theorem of_hidT {h:Heap} {H:Hp} {b:Addr} {o:Obj} (e:(hidT h H).get? b=some o):h.get? b=some o∧H b=none:=by
 have e':h.get? b=some o:=PySem.W.of_hideAll (trk h H) e
 refine ⟨e',?_⟩
 cases q:H b with
 | none=>rfl
 | some x =>
  have hm:b∈trk h H:=List.mem_filter.mpr ⟨List.mem_range.mpr (Heap.lt_size e'),by simp [q]⟩
  have z:(hidT h H).get? b=none:=PySem.W.hideAll_none (trk h H) hm
  rw [z] at e; cases e
noncomputable def allNews (g h:Heap) (L:Addr):List (Addr×Obj):=(List.range h.objs.size).filterMap fun a=>if a=L∨(g.get? a).isSome=true then none else (h.get? a).map fun o=>(a,o)
noncomputable def rest (g h:Heap) (L d:Addr):List (Addr×Obj):=(allNews g h L).filter fun p=>decide (p.1≠d)
end L2
namespace L2
open PySem PySem.Spec PyProof.Rows
noncomputable def HdS (A:Around) (h:Heap):Prop:=∀ v,A.handled=some v→∃ x o vs,v = .ref x∧h.get? x=some o∧o.data = .fields vs∧vs[2]? = some .none
section
variable {prog:Program} {w:World} {A:Around} {E:Value→Shared→Prop} {s:Shared}
theorem entry_unchain:entryFor table "proto.unchain" = some Builtin.«proto.unchain»:=entryFor_of_tree (by kernel_rfl)
theorem raise_hd {α:Type} {a:Addr} {o:Obj} {vs:Array Value} {Q:α→Shared→Prop} (hh:HdS A s.heap) (ho:s.heap.get? a=some o) (hd:o.data = .fields vs) (hz:2 < vs.size)
  (hE:∀ h' o',h'.get? a=some o'→o'.cls=o.cls→Heap.SameBut a s.heap h'→E (.ref a) { s with heap:=h' }):wpAny (model prog w) A (raiseNew (.ref a)) Q E s:=by
 obtain ⟨oc,od,dt,sl⟩:=o
 cases hd
 unfold raiseNew
 refine wpAny_bind (wpAny_handled ?_)
 cases q:A.handled with
 | none=>exact wpAny_throw (hE s.heap _ ho rfl (Heap.SameBut.refl ..))
 | some v =>
  obtain ⟨x,ox,ws,rfl,hx,hxd,hx2⟩:=hh v q
  show wpAny _ _ (if (Value.ref x != Value.ref a)=true then _ else _) _ _ s
  by_cases e:(Value.ref x != Value.ref a)=true
  ·rw [if_pos e]
   refine wpAny_bind (wpAny_holding (wpAny_runValue (codeAny_builtin entry_unchain ?_)))
   unfold Builtin.«proto.unchain»
   refine wpAny_bind (wpAny_field hx hxd hx2 ?_)
   refine wpAny_pure ?_
   show wpAny _ _ (updateField a 2 (.ref x) >>= _) _ _ s
   unfold updateField
   refine wpAny_bind (wpAny_bind (wpAny_load ho ?_))
   show wpAny _ _ (if 2 < vs.size then _ else _) _ _ s
   rw [if_pos hz]
   refine wpAny_update ho (wpAny_throw ?_)
   exact hE _ _ (Heap.get?_update_self _ ho rfl) rfl (Heap.SameBut.update ..)
  ·rw [if_neg e]
   exact wpAny_throw (hE s.heap _ ho rfl (Heap.SameBut.refl ..))
theorem stop_objs {α:Type} {it:Addr} {Q:α→Shared→Prop} (hh:HdS A s.heap) (k:∀ h' a o,h'.get? a=some o→o.cls = .type "StopIteration"→Heap.ExtBut it s.heap h'→E (.ref a) { s with heap:=h' }) :
  wpAny (model prog w) A (do let e ← newExc (.type "StopIteration") []; raiseNew e) Q E s:=by
 refine wpAny_bind ?_
 simp only [newExc,newTuple]
 refine wpAny_bind (wpAny_newObj_type (wpAny_bind (m:=firstArgMember _ _) (wpAny_of_eq (a:=Value.none) (by first | rfl | (simp only [firstArgMember]; rfl)) (wpAny_newObj_type ?_ (by size_fits)))) (by size_fits))
 refine raise_hd (vs:=#[.ref s.heap.objs.size,.none,.none,.none,.bool false,.none] ++ ownMembersOf (.type "StopIteration") []) (fun v q=>?_) (Heap.get?_push_size _ rfl) rfl (by simp [ownMembersOf]) fun h' o' e1 e2 sb=>k _ _ _ e1 e2 fun b o hb e=>?_
 ·obtain ⟨x,o,vs,e,h1,h2,h3⟩:=hh v q
  exact ⟨x,o,vs,e,Heap.get?_push_of_some _ (Heap.get?_push_of_some _ h1),h2,h3⟩
 ·refine (sb.2 b ?_).trans (Heap.get?_push_of_some _ (Heap.get?_push_of_some _ e))
  have h2:(s.heap.push { cls:=.type "tuple",data:=.seq #[] }).objs.size=s.heap.objs.size + 1:=by simp [Heap.push]
  have h3:s.heap.objs.size≤(s.heap.push { cls:=.type "tuple",data:=.seq #[] }).objs.size:=by omega
  rintro rfl
  exact absurd (Nat.lt_of_lt_of_le (Heap.lt_size e) h3) (Nat.lt_irrefl _)
theorem range_endH {it:Addr} {x left c:Int} {Q:Option Value→Shared→Prop} (hh:HdS A s.heap) (hI:IsRangeIter s.heap it x left c) (z:left≤0) (k:∀ h',Heap.ExtBut it s.heap h'→Q none { s with heap:=h' }):wpAny (model prog w) A (pyNext (.ref it)) Q E s:=by
 have ty:s.TypeIs (.ref it) "range_iterator":=⟨_,hI,rfl⟩
 unfold pyNext
 refine wpAny_bind (wpAny_attempt (wpAny_callSpecial?_slot (name:=Str.ofString "__next__") ty F.slot_range_iterator_next (wpAny_call_entry F.slot_range_iterator_next ty F.entry_range_iterator_next ?_ (F.args_range_iterator_next_1 _))))
 refine (show wpAny _ _ (do let a ← field (.ref it) 0; _) _ _ s from wpAny_bind (wpAny_field hI rfl (x:=rawInt x) rfl ?_))
 refine (show wpAny _ _ (do let a ← field (.ref it) 1; _) _ _ s from wpAny_bind (wpAny_field hI rfl (x:=rawInt left) rfl ?_))
 refine (show wpAny _ _ (do let a ← field (.ref it) 2; _) _ _ s from wpAny_bind (wpAny_field hI rfl (x:=rawInt c) rfl ?_))
 show wpAny _ _ (ite (left≤0) _ _) _ _ s
 rw [if_pos z]
 refine wpAny_bind (wpAny_rule (wpAny_bind (stop_objs (it:=it) hh fun h' a o e1 e2 eb=>?_)))
 exact wpAny_bind (wpAny_isInstance (T:="StopIteration") (b:=true) ⟨_,e1,e2⟩ isSubtype_stop (wpAny_pure (k _ eb)))
end
end L2
namespace L2
open PySem PySem.Spec PyProof.Rows
structure Mod (K:PySem.W.Frag) (mg:Str→Option Value) (base:Heap):Prop where
 kin:K.In base
 glob:base.Ns mainGlobals mg
 blt:∃ mb,base.Ns builtinsNs mb∧∀ x:Str,x≠"__name__"→mb x=bootBuiltins x
 nolimit:base.NoLimit
 sysm:∃ mm,base.Ns sysModules mm
noncomputable def HdOk (A:Around) (H:Hp):Prop:=∀ v,A.handled=some v→∃ x o u vs,v = .ref x∧H x=some (.frz o u)∧o.data = .fields vs∧vs[2]? = some .none
theorem HdOk.mono {A:Around} {H H':Hp} (x:HdOk A H) (f:∀ b o u,H b=some (.frz o u)→H' b=some (.frz o u)):HdOk A H':=fun v q =>
 let ⟨x,o,u,vs,e,h,r⟩:=x v q; ⟨x,o,u,vs,e,f _ _ _ h,r⟩
theorem HdOk.hds {P:Program} {w:World} {A:Around} {H:Hp} {h:Heap} (x:HdOk A H) (k:HOk P w H h):HdS A h:=fun v q =>
 let ⟨x,o,u,vs,e,y,r⟩:=x v q; ⟨x,o,vs,e,(show ObjOk P w H h x (.frz o u) from k _ _ y).1,r⟩
structure Cx where
 prog:Program
 w:World
 K:PySem.W.Frag
 mg:Str→Option Value
 base:Heap
 A:Around
 N:List Str
 s₀:Shared
 H₀:Hp
 env:Env
 outer:List Env
 stack:List Env
 ex:List Addr
 fn:Str→Bool
 calm:Bool
 pn:List (Addr×Obj)
 xe:Value→Shared→Prop
noncomputable def frs (l:List Env):List Addr:=l.filterMap (·.frame)
noncomputable abbrev Cx.fs (X:Cx):List Addr:=frs X.outer
noncomputable def Vis (sc:Scope) (x:Str):Prop:=sc.names.lookup x=some .local∨sc.names.lookup x=some .cell∨sc.names.lookup x=some .free
noncomputable def Loc (sc:Scope) (x:Str):Prop:=sc.names.lookup x=some .local∨sc.names.lookup x=some .cell
noncomputable def Look (env:Env) (h:Heap) (m:Str→Option Value) (x:Str) (u:Value):Prop :=
 (env.kindOf x=some .local∧m x=some u)∨((env.kindOf x=some .cell∨env.kindOf x=some .free)∧∃ c,env.cells.lookup x=some c∧h.IsCell c (some u))
structure Cx.Ok (X:Cx):Prop where
 mod:Mod X.K X.mg X.base
 kind:X.env.scope.kind = .function
 glob:X.env.globals=mainGlobals
 blt:X.env.builtins=builtinsNs
 above:X.s₀.heap.objs.size≤X.env.locals
 inj:∀ x y c,X.env.cells.lookup x=some c→X.env.cells.lookup y=some c→x=y
 has:∀ x,(X.env.kindOf x=some .cell∨X.env.kindOf x=some .free)→∃ c,X.env.cells.lookup x=some c
 cab:∀ x c,X.fn x=true→X.env.cells.lookup x=some c→X.s₀.heap.objs.size≤c
 hd:X.calm=true→X.A.handled=none
 frames:X.A.frames=some X.stack
 stk:X.stack=X.outer∨(X.stack=X.env :: X.outer∧X.env.frame=some X.env.locals)
 exf:∀ b∈X.ex,b≠X.env.locals∧∀ x c,X.env.cells.lookup x=some c→c≠b
 bs:∀ b o,X.base.get? b=some o→X.s₀.heap.get? b=some o∧X.H₀ b=none
 bsz:X.base.objs.size≤X.s₀.heap.objs.size
 noex:∀ b o,X.base.get? b=some o→b ∉ X.ex
 exfs:∀ b∈X.ex,b ∉ X.fs
 funs:X.s₀.heap.FunFrames X.base X.outer
 frf:∀ b∈X.fs,X.H₀ b=none
structure Inv (X:Cx) (pins:List (Addr×Obj)) (σ:List (Option V)) (H:Hp) (s:Shared):Prop where
 ok:X.Ok
 os:s.os=X.s₀.os
 bare:AllBare s.gens
 base:Un X.fs X.ex X.H₀ H X.s₀.heap s.heap
 loc:∃ m,s.heap.Ns X.env.locals m∧∀ (i:Nat) (x:Str) (v:V),X.N[i]? = some x→σ[i]? = some (some v)→Vis X.env.scope x→∃ u,RelV v u∧Look X.env s.heap m x u
 cell:∀ x c,X.env.cells.lookup x=some c→∃ v,s.heap.IsCell c v
 free:H X.env.locals=none
 freeC:∀ x c,X.env.cells.lookup x=some c→H c=none
 pin:∀ p∈X.pn ++ pins,s.heap.get? p.1=some p.2∧H p.1=none∧p.1≠X.env.locals∧p.1 ∉ X.fs∧∀ v,p.2.data≠.cell v
 hok:HOk X.prog X.w H s.heap
 len:σ.length=X.N.length
 hh:HdOk X.A H
section
variable {X:Cx} {pins:List (Addr×Obj)} {σ:List (Option V)} {H H':Hp} {s:Shared} {h':Heap}
theorem Cx.Ok.nofr (ok:X.Ok) {b:Addr} {o:Obj} (e:X.base.get? b=some o):b ∉ X.fs:=fun hb=>by
 have:=(ok.funs.mem hb).1
 rw [e] at this; cases this
theorem Inv.bs (I:Inv X pins σ H s):∀ b o,X.base.get? b=some o→s.heap.get? b=some o∧H b=none:=fun b o e =>
 ⟨I.base.keep b o (I.ok.bs b o e).1 (I.ok.bs b o e).2 (I.ok.nofr e) (I.ok.noex b o e),I.base.free b o (I.ok.bs b o e).1 (I.ok.bs b o e).2 (I.ok.noex b o e)⟩
theorem Inv.bk (I:Inv X pins σ H s):∀ b o,X.base.get? b=some o→s.heap.get? b=some o:=fun b o e=>(I.bs b o e).1
theorem Inv.mod (I:Inv X pins σ H s):Mod X.K X.mg X.base:=I.ok.mod
theorem Inv.kIn (I:Inv X pins σ H s):X.K.In s.heap:=I.ok.mod.kin.keeps I.bk
theorem Inv.nolimit (I:Inv X pins σ H s):s.heap.NoLimit:=I.ok.mod.nolimit.keeps I.bk
theorem Inv.fr (I:Inv X pins σ H s):∃ m,Fr X.base X.env.locals s.heap m :=
 let ⟨m,hn,_⟩:=I.loc
 ⟨m,hn,I.bk,Nat.le_trans I.ok.bsz I.ok.above⟩
theorem Inv.lt (I:Inv X pins σ H s):X.env.locals < s.heap.objs.size:=let ⟨_,hn,_⟩:=I.loc; hn.lt
theorem Inv.sz (I:Inv X pins σ H s):X.s₀.heap.objs.size≤s.heap.objs.size:=Nat.le_trans I.ok.above (Nat.le_of_lt I.lt)
theorem Inv.nofs (I:Inv X pins σ H s) {a:Addr} (h:s.heap.objs.size≤a):a ∉ X.fs:=fun hb=>by
 obtain ⟨_,o,ho,_⟩:=I.ok.funs.mem hb
 exact absurd (Nat.lt_of_lt_of_le (Heap.lt_size ho) (Nat.le_trans I.sz h)) (Nat.lt_irrefl _)
theorem Inv.cne (I:Inv X pins σ H s):∀ x c,X.env.cells.lookup x=some c→c≠X.env.locals:=fun x c e z=>by
 obtain ⟨v,o,ho,hd⟩:=I.cell x c e
 obtain ⟨m,⟨o',es,ep,ho',hd',_⟩,_⟩:=I.loc
 rw [z,ho'] at ho; cases ho; rw [hd'] at hd; cases hd
theorem Inv.funs (I:Inv X pins σ H s):s.heap.FunFrames X.base X.outer:=by
 have all:∀ (l:List Env),(∀ b∈frs l,b∈X.fs)→X.s₀.heap.FunFrames X.base l→s.heap.FunFrames X.base l:=by
  intro l
  induction l with
  | nil=>intro _ _; trivial
  | cons env r ih =>
   intro hs hl
   obtain ⟨hk,⟨L,o,hf,hn,ho,hd⟩,hr⟩:=hl
   have hL:L∈X.fs:=hs L (by unfold frs; rw [List.filterMap_cons,hf]; exact List.mem_cons_self)
   obtain ⟨sl,e⟩:=I.base.slot L o ho (I.ok.frf L hL) hL fun z=>I.ok.exfs L z hL
   exact ⟨hk,⟨L,_,hf,hn,e,hd⟩,ih (fun b hb=>hs b (by unfold frs; rw [List.filterMap_cons,hf]; exact List.mem_cons_of_mem _ hb)) hr⟩
 exact all X.outer (fun _ hb=>hb) I.ok.funs
theorem Inv.stack (I:Inv X pins σ H s):s.heap.FunFrames X.base X.stack:=by
 rcases I.ok.stk with e | ⟨e,hf⟩
 ·rw [e]; exact I.funs
 ·rw [e]
  obtain ⟨m,hn,_⟩:=I.loc
  refine .cons (by rw [I.ok.kind]; decide) hf hn ?_ I.funs
  exact Heap.get?_none_of_le (Nat.le_trans I.ok.bsz I.ok.above)
theorem Inv.stkSub (I:Inv X pins σ H s):∀ b∈frs X.stack,b∈X.env.locals :: X.fs:=fun b hb=>by
 rcases I.ok.stk with e | ⟨e,hf⟩
 ·rw [e] at hb; exact List.mem_cons_of_mem _ hb
 ·rw [e] at hb
  unfold frs at hb
  rw [List.filterMap_cons,hf] at hb
  exact hb
theorem Inv.stkFree (I:Inv X pins σ H s):∀ b∈frs X.stack,H b=none:=fun b hb=>by
 rcases List.mem_cons.mp (I.stkSub b hb) with e | hb
 ·rw [e]; exact I.free
 ·obtain ⟨_,o,ho,_⟩:=I.ok.funs.mem hb
  exact I.base.free b o ho (I.ok.frf b hb) fun z=>I.ok.exfs b z hb
theorem Inv.step {g':Array GenState} {t':Nat} {d':Drawn} {ch:List Addr} (I:Inv X pins σ H s)
  (hch:∀ b∈ch,(b∈X.ex∨X.s₀.heap.objs.size≤b)∧b≠X.env.locals∧(∀ x c,X.env.cells.lookup x=some c→c≠b)∧∀ p∈X.pn ++ pins,p.1≠b)
  (keep:∀ b o,b≠X.env.locals→b ∉ X.fs→b ∉ ch→s.heap.get? b=some o→H b=none→h'.get? b=some o)
  (slot:∀ b o,b≠X.env.locals→b∈X.fs→b ∉ ch→s.heap.get? b=some o→H b=none→∃ sl,h'.get? b=some { o with slots:=sl }) (free:∀ b o,b ∉ ch→s.heap.get? b=some o→H b=none→H' b=none)
  (there:∀ b o,b ∉ ch→s.heap.get? b=some o→∃ o',h'.get? b=some o')
  (tups:∀ b xs,H b=some (.tup xs)→H' b=some (.tup xs)) (frzs:∀ b o u,H b=some (.frz o u)→H' b=some (.frz o u)) (tbls:∀ b ps,H b=some (.tbl ps)→∃ more,H' b=some (.tbl (ps ++ more)))
  (ns:∀ m,s.heap.Ns X.env.locals m→h'.Ns X.env.locals m) (hok:HOk X.prog X.w H' h') (hg:AllBare g') :
  Inv X pins σ H' { s with heap:=h',gens:=g',drawn:=d',toks:=t' }:=by
 have neL:∀ b o,X.s₀.heap.get? b=some o→b≠X.env.locals:=fun b o e=>Nat.ne_of_lt (Nat.lt_of_lt_of_le (Heap.lt_size e) I.ok.above)
 have neC:∀ b o,X.s₀.heap.get? b=some o→b ∉ X.ex→b ∉ ch:=fun b o e hx hb=>by
  rcases (hch b hb).1 with z | z
  ·exact hx z
  ·exact absurd (Nat.lt_of_lt_of_le (Heap.lt_size e) z) (Nat.lt_irrefl _)
 have cellK:∀ x c,X.env.cells.lookup x=some c→∀ v,s.heap.IsCell c v→h'.IsCell c v:=fun x c e v ⟨o,ho,hd⟩=>by
  have nch:c ∉ ch:=fun z=>(hch c z).2.2.1 x c e rfl
  by_cases hc:c∈X.fs
  ·obtain ⟨sl,q⟩:=slot c o (I.cne x c e) hc nch ho (I.freeC x c e)
   exact ⟨_,q,hd⟩
  ·exact ⟨o,keep c o (I.cne x c e) hc nch ho (I.freeC x c e),hd⟩
 refine ⟨I.ok,I.os,hg,⟨fun b o e n hb hx=>?_,fun b o e n hb hx=>?_,fun b o e n hx=>?_,fun b o e hx=>?_,fun b xs e=>tups b xs (I.base.tups b xs e),fun b o xs e=>frzs b o xs (I.base.frzs b o xs e),fun b ps e=>?_⟩,?_,fun x c e=>?_,?_,fun x c e=>?_,fun p hp=>?_,hok,I.len,I.hh.mono frzs⟩
 ·exact keep b o (neL b o e) hb (neC b o e hx) (I.base.keep b o e n hb hx) (I.base.free b o e n hx)
 ·obtain ⟨sl,e1⟩:=I.base.slot b o e n hb hx
  obtain ⟨sl',e2⟩:=slot b _ (neL b o e) hb (neC b o e hx) e1 (I.base.free b o e n hx)
  exact ⟨sl',e2⟩
 ·obtain ⟨o',e1⟩:=I.base.there b o e hx
  exact free b o' (neC b o e hx) e1 (I.base.free b o e n hx)
 ·obtain ⟨o',e1⟩:=I.base.there b o e hx
  exact there b o' (neC b o e hx) e1
 ·obtain ⟨m1,e1⟩:=I.base.tbls b ps e
  obtain ⟨m2,e2⟩:=tbls b _ e1
  exact ⟨m1 ++ m2,by rw [e2,Array.append_assoc]⟩
 ·obtain ⟨m,hn,hl⟩:=I.loc
  refine ⟨m,ns m hn,fun i x v e1 e2 e3=>?_⟩
  obtain ⟨u,r,l⟩:=hl i x v e1 e2 e3
  refine ⟨u,r,?_⟩
  rcases l with l | ⟨k,c,e,z⟩
  ·exact .inl l
  ·exact .inr ⟨k,c,e,cellK x c e _ z⟩
 ·obtain ⟨v,z⟩:=I.cell x c e
  exact ⟨v,cellK x c e v z⟩
 ·obtain ⟨m,⟨o,_,_,ho,_⟩,_⟩:=I.loc
  exact free _ o (fun z=>(hch _ z).2.1 rfl) ho I.free
 ·obtain ⟨v,o,ho,hd⟩:=I.cell x c e
  exact free c o (fun z=>(hch c z).2.2.1 x c e rfl) ho (I.freeC x c e)
 ·obtain ⟨e,n,ne,nf,d⟩:=I.pin p hp
  have nch:p.1 ∉ ch:=fun z=>(hch p.1 z).2.2.2 p hp rfl
  exact ⟨keep p.1 p.2 ne nf nch e n,free p.1 p.2 nch e n,ne,nf,d⟩
theorem Inv.un {t':Nat} (I:Inv X pins σ H s) (u:Un X.fs [] H H' s.heap h') (hok:HOk X.prog X.w H' h'):Inv X pins σ H' { s with heap:=h',toks:=t' }:=by
 obtain ⟨m,⟨o,es,ep,ho,r⟩,_⟩:=id I.loc
 obtain ⟨sl,hL⟩:=u.any ho I.free (by simp)
 exact I.step (g':=s.gens) (d':=s.drawn) (ch:=[]) (fun _ z=>nomatch z) (fun b o _ hb _ e n=>u.keep b o e n hb (by simp)) (fun b o _ hb _ e n=>u.slot b o e n hb (by simp)) (fun b o _ e n=>u.free b o e n (by simp)) (fun b o _ e=>u.there b o e (by simp)) u.tups u.frzs u.tbls (fun m' hm=>by
  obtain ⟨o',es',ep',ho',r'⟩:=hm
  rw [ho] at ho'; cases ho'
  exact ⟨_,es',ep',hL,r'⟩) hok I.bare
theorem Inv.call {g':Array GenState} {t':Nat} {d':Drawn} {ch:List Addr} (I:Inv X pins σ H s) (u:Un (frs X.stack) ch H H' s.heap h') (hok:HOk X.prog X.w H' h') (hg:AllBare g')
  (hch:∀ b∈ch,(b∈X.ex∨X.s₀.heap.objs.size≤b)∧b≠X.env.locals∧(∀ x c,X.env.cells.lookup x=some c→c≠b)∧∀ p∈X.pn ++ pins,p.1≠b) :
  Inv X pins σ H' { s with heap:=h',gens:=g',drawn:=d',toks:=t' }:=by
 obtain ⟨m,⟨o,es,ep,ho,r⟩,_⟩:=id I.loc
 obtain ⟨sl,hL⟩:=u.any ho I.free fun z=>(hch _ z).2.1 rfl
 exact I.step (ch:=ch) hch (fun b o hL hb hc e n=>u.keep b o e n (fun z=>(List.mem_cons.mp (I.stkSub b z)).elim hL hb) hc) (fun b o _ _ hc e n=>u.any e n hc) (fun b o hc e n=>u.free b o e n hc) (fun b o hc e=>u.there b o e hc) u.tups u.frzs u.tbls (fun m' hm=>by
  obtain ⟨o',es',ep',ho',r'⟩:=hm
  rw [ho] at ho'; cases ho'
  exact ⟨_,es',ep',hL,r'⟩) hok hg
theorem Inv.turned {t':Nat} {it:Addr} (I:Inv X pins σ H s) (k:∀ b o,b≠it→s.heap.get? b=some o→h'.get? b=some o) (hn:H it=none) (hL:it≠X.env.locals)
  (h1:it∈X.ex∨X.s₀.heap.objs.size≤it) (h2:∀ x c,X.env.cells.lookup x=some c→c≠it) (h3:∀ p∈X.pn ++ pins,p.1≠it):Inv X pins σ H { s with heap:=h',toks:=t' }:=by
 have nit:∀ b u,H b=some u→b≠it:=fun b u e z=>by rw [z,hn] at e; cases e
 refine I.step (g':=s.gens) (d':=s.drawn) (ch:=[it]) (fun b hb=>?_) (fun b o _ _ hc e _=>k b o (fun z=>hc (by simp [z])) e) (fun b o _ _ hc e _=>⟨o.slots,k b o (fun z=>hc (by simp [z])) e⟩) (fun _ _ _ _ n=>n)
  (fun b o hc e=>⟨o,k b o (fun z=>hc (by simp [z])) e⟩) (fun _ _ e=>e) (fun _ _ _ e=>e) (fun b ps e=>⟨#[],by rw [e]; simp⟩) (fun m hm=>?_) (fun b u e=>?_) I.bare
 ·have e:b=it:=by simpa using hb
  subst e
  exact ⟨h1,hL,h2,h3⟩
 ·obtain ⟨o,es,ep,ho,r⟩:=hm
  exact ⟨o,es,ep,k _ o (Ne.symm hL) ho,r⟩
 ·refine (I.hok b u e).stay (fun c v hc q=>k c v ?_ q) (fun _ q=>q) fun _ _ q=>q
  rcases hc with z | z
  ·rw [z]; exact nit b u e
  ·exact nit c _ z
theorem Inv.tok (I:Inv X pins σ H s) (t:Nat):Inv X pins σ H { s with toks:=t }:=I.un (h':=s.heap) (t':=t) Un.refl I.hok
theorem Inv.kept {t':Nat} (I:Inv X pins σ H s) (k:∀ b u,s.heap.get? b=some u→h'.get? b=some u):Inv X pins σ H { s with heap:=h',toks:=t' }:=I.un (Un.kept k) (I.hok.kept k)
theorem Inv.laid {a:Addr} {o:HO} {t':Nat} (I:Inv X pins σ H s) (k:∀ b u,s.heap.get? b=some u→h'.get? b=some u) (hp:s.heap.objs.size≤a) (new:ObjOk X.prog X.w (upd H a o) h' a o) :
  Inv X pins σ (upd H a o) { s with heap:=h',toks:=t' }:=I.un (Un.laid k hp (I.hok.fresh hp)) (I.hok.laid k hp new)
theorem Inv.write {x e:Addr} {o:HO} {t':Nat} (I:Inv X pins σ H s) (mu:Mut (H x)) (he:e=x∨H e=some (.own x)) (k:∀ b u,b≠e→s.heap.get? b=some u→h'.get? b=some u) (heo:∃ u,h'.get? e=some u)
  (new:ObjOk X.prog X.w (upd H x o) h' x o):Inv X pins σ (upd H x o) { s with heap:=h',toks:=t' }:=I.un (Un.write mu he k heo) (I.hok.write mu he k heo new)
theorem Inv.pins_of {pins':List (Addr×Obj)} (I:Inv X pins σ H s) (h:∀ p∈pins',s.heap.get? p.1=some p.2∧H p.1=none∧p.1≠X.env.locals∧p.1 ∉ X.fs∧∀ v,p.2.data≠.cell v):Inv X pins' σ H s :=
 ⟨I.ok,I.os,I.bare,I.base,I.loc,I.cell,I.free,I.freeC,fun p hp=>(List.mem_append.mp hp).elim (fun z=>I.pin p (List.mem_append_left _ z)) (h p),I.hok,I.len,I.hh⟩
theorem nodup_ix {N:List Str} (hN:N.Nodup) {i j:Nat} {x:Str} (a:N[i]? = some x) (b:N[j]? = some x):i=j:=by
 obtain ⟨h1,e1⟩:=List.getElem?_eq_some_iff.mp a
 obtain ⟨h2,e2⟩:=List.getElem?_eq_some_iff.mp b
 exact (List.getElem_inj hN).mp (e1.trans e2.symm)
theorem store_ok2 {M:Model} {A:Around} {E:Value→Shared→Prop} {i:Nat} {x:Str} {v:V} {u:Value} {Q:Unit→Shared→Prop} (I:Inv X pins σ H s) (hN:X.N.Nodup) (hi:X.N[i]? = some x) (hx:Loc X.env.scope x) (r:RelV v u)
  (h:∀ s',Inv X pins (σ.set i (some v)) H s'→(∃ a,Heap.SameBut a s.heap s'.heap∧(a=X.env.locals∨X.env.cells.lookup x=some a))→Q () s') (hf:X.fn x=true∨X.env.scope.names.lookup x=some .local:=by first | exact .inl rfl | exact .inr rfl | assumption):wpAny M A (storeName X.env x u) Q E s:=by
 obtain ⟨m,hn,hl⟩:=id I.loc
 have hcls:(X.env.scope.kind == .class || (X.env.scope.kind == .module && X.env.locals != X.env.globals))=false:=by rw [I.ok.kind]; rfl
 have hiσ:i < σ.length:=by rw [I.len]; exact (List.getElem?_eq_some_iff.mp hi).1
 have cne:=I.cne
 have tracked:∀ {a:Addr} {h':Heap},(∃ o,s.heap.get? a=some o∧H a=none)→Heap.SameBut a s.heap h'→HOk X.prog X.w H h':=fun {a h'} ha hs b ob e=>by
  obtain ⟨_,_,hfree⟩:=ha
  refine (I.hok b ob e).stay (fun c w' hc q=>(hs.2 c ?_).trans q) (fun _ q=>q) fun _ _ q=>q
  rintro rfl
  rcases hc with rfl | hc
  ·rw [hfree] at e; cases e
  ·rw [hfree] at hc; cases hc
 rcases hx with hk | hk
 ·refine wpAny_storeName_local hk hn (fun h' hn' hs=>?_) hcls
  obtain ⟨oL,_,_,hoL,_⟩:=id hn
  refine h _ ⟨I.ok,I.os,I.bare,⟨fun b o e n hb hx=>?_,fun b o e n hb hx=>?_,I.base.free,fun b o e hx=>?_,I.base.tups,I.base.frzs,I.base.tbls⟩,⟨_,hn',fun j y v' e1 e2 e3=>?_⟩,fun y c e=>?_,I.free,I.freeC,fun p hp=>?_,tracked ⟨oL,hoL,I.free⟩ hs,by simpa using I.len,I.hh⟩ ⟨_,hs,.inl rfl⟩
  ·exact (hs.2 b (Nat.ne_of_lt (Nat.lt_of_lt_of_le (Heap.lt_size e) I.ok.above))).trans (I.base.keep b o e n hb hx)
  ·obtain ⟨sl,e1⟩:=I.base.slot b o e n hb hx
   exact ⟨sl,(hs.2 b (Nat.ne_of_lt (Nat.lt_of_lt_of_le (Heap.lt_size e) I.ok.above))).trans e1⟩
  ·obtain ⟨o',e1⟩:=I.base.there b o e hx
   exact ⟨o',(hs.2 b (Nat.ne_of_lt (Nat.lt_of_lt_of_le (Heap.lt_size e) I.ok.above))).trans e1⟩
  ·by_cases hj:j=i
   ·subst hj
    rw [hi] at e1; cases e1
    rw [List.getElem?_set_self hiσ] at e2
    cases e2
    exact ⟨u,r,.inl ⟨hk,by simp⟩⟩
   ·rw [List.getElem?_set_ne (Ne.symm hj)] at e2
    obtain ⟨u',r',q⟩:=hl j y v' e1 e2 e3
    refine ⟨u',r',?_⟩
    rcases q with ⟨k,e⟩ | ⟨k,c,e,z⟩
    ·refine .inl ⟨k,?_⟩
     have:y≠x:=fun e=>hj (nodup_ix hN e1 (e ▸ hi))
     simp [this,e]
    ·exact .inr ⟨k,c,e,z.sameBut hs (cne y c e)⟩
  ·obtain ⟨w',z⟩:=I.cell y c e
   exact ⟨w',z.sameBut hs (cne y c e)⟩
  ·obtain ⟨e,n,ne,nf,d⟩:=I.pin p hp
   exact ⟨(hs.2 p.1 ne).trans e,n,ne,nf,d⟩
 ·have hfn:X.fn x=true:=by
   rcases hf with z | z
   ·exact z
   ·rw [z] at hk; cases hk
  obtain ⟨c,hc⟩:=I.ok.has x (.inl hk)
  obtain ⟨w',z⟩:=I.cell x c hc
  refine wpAny_storeName_cell I.ok.kind hk hc z (fun h' hc' hs=>?_)
  obtain ⟨oc,hoc,hocd⟩:=id z
  refine h { s with heap:=h' } ⟨I.ok,I.os,I.bare,⟨fun b o e n hb hx=>?_,fun b o e n hb hx=>?_,I.base.free,fun b o e hx=>?_,I.base.tups,I.base.frzs,I.base.tbls⟩,⟨m,hn.sameBut hs (Ne.symm (cne x c hc)),fun j y v' e1 e2 e3=>?_⟩,fun y c' e=>?_,I.free,I.freeC,fun p hp=>?_,tracked ⟨oc,hoc,I.freeC x c hc⟩ hs,by simpa using I.len,I.hh⟩ ⟨c,hs,.inr hc⟩
  ·exact (hs.2 b (Nat.ne_of_lt (Nat.lt_of_lt_of_le (Heap.lt_size e) (I.ok.cab x c hfn hc)))).trans (I.base.keep b o e n hb hx)
  ·obtain ⟨sl,e1⟩:=I.base.slot b o e n hb hx
   exact ⟨sl,(hs.2 b (Nat.ne_of_lt (Nat.lt_of_lt_of_le (Heap.lt_size e) (I.ok.cab x c hfn hc)))).trans e1⟩
  ·obtain ⟨o',e1⟩:=I.base.there b o e hx
   exact ⟨o',(hs.2 b (Nat.ne_of_lt (Nat.lt_of_lt_of_le (Heap.lt_size e) (I.ok.cab x c hfn hc)))).trans e1⟩
  ·by_cases hj:j=i
   ·subst hj
    rw [hi] at e1; cases e1
    rw [List.getElem?_set_self hiσ] at e2
    cases e2
    exact ⟨u,r,.inr ⟨.inl hk,c,hc,hc'⟩⟩
   ·rw [List.getElem?_set_ne (Ne.symm hj)] at e2
    obtain ⟨u',r',q⟩:=hl j y v' e1 e2 e3
    refine ⟨u',r',?_⟩
    rcases q with q | ⟨k,c',e,z'⟩
    ·exact .inl q
    ·refine .inr ⟨k,c',e,z'.sameBut hs ?_⟩
     rintro rfl
     exact hj (nodup_ix hN e1 (I.ok.inj _ _ _ e hc ▸ hi))
  ·by_cases hcc:c'=c
   ·subst hcc; exact ⟨_,hc'⟩
   ·obtain ⟨w2,z2⟩:=I.cell y c' e
    exact ⟨w2,z2.sameBut hs hcc⟩
  ·obtain ⟨e,n,ne,nf,d⟩:=I.pin p hp
   refine ⟨(hs.2 p.1 ?_).trans e,n,ne,nf,d⟩
   intro q
   rw [q,hoc] at e
   have q':oc=p.2:=Option.some.inj e
   exact d w' (by rw [← q']; exact hocd)
theorem store_ok {M:Model} {A:Around} {E:Value→Shared→Prop} {i:Nat} {x:Str} {v:V} {u:Value} {Q:Unit→Shared→Prop} (I:Inv X pins σ H s) (hN:X.N.Nodup) (hi:X.N[i]? = some x) (hx:Loc X.env.scope x) (r:RelV v u)
  (h:∀ s',Inv X pins (σ.set i (some v)) H s'→Q () s') (hf:X.fn x=true∨X.env.scope.names.lookup x=some .local:=by first | exact .inl rfl | exact .inr rfl | assumption):wpAny M A (storeName X.env x u) Q E s :=
 store_ok2 I hN hi hx r (fun s' I' _=>h s' I') hf
theorem Inv.call' {s':Shared} {ch:List Addr} (I:Inv X pins σ H s) (ho:s'.os=s.os) (u:Un (frs X.stack) ch H H' s.heap s'.heap) (hok:HOk X.prog X.w H' s'.heap) (hg:AllBare s'.gens)
  (hch:∀ b∈ch,(b∈X.ex∨X.s₀.heap.objs.size≤b)∧b≠X.env.locals∧(∀ x c,X.env.cells.lookup x=some c→c≠b)∧∀ p∈X.pn ++ pins,p.1≠b):Inv X pins σ H' s':=by
 obtain ⟨h',g',d',t',o'⟩:=s'
 have e:o'=s.os:=ho
 subst e
 exact I.call (g':=g') (t':=t') (d':=d') u hok hg hch
end
noncomputable abbrev XK:=Value→Option Addr→Hp→Prop
noncomputable abbrev St:=List (Option V)
noncomputable abbrev VK:=V→Hp→Prop
noncomputable abbrev TE:=St→Hp→VK→Prop
noncomputable abbrev TT:=St→Hp→(Bool→Hp→Prop)→Prop
noncomputable abbrev TA:=St→Hp→(List V→Hp→Prop)→Prop
structure Ends where
 nx:St→Hp→Prop
 rt:VK
 bk:St→Hp→Prop:=fun _ _=>False
 ct:St→Hp→Prop:=fun _ _=>False
noncomputable abbrev TS:=Ends→St→Hp→Prop
noncomputable def EP (X:Cx) (pins:List (Addr×Obj)) (σ:St) (Q:VK) (u:Value) (s':Shared):Prop:=∃ v H',Inv X pins σ H' s'∧RelV v u∧Q v H'
noncomputable def TP (X:Cx) (pins:List (Addr×Obj)) (σ:St) (Q:Bool→Hp→Prop) (b:Bool) (s':Shared):Prop:=∃ H',Inv X pins σ H' s'∧Q b H'
noncomputable def AP (X:Cx) (pins:List (Addr×Obj)) (σ:St) (Q:List V→Hp→Prop) (us:List Value) (s':Shared):Prop:=∃ vs H',Inv X pins σ H' s'∧Vals vs us∧Q vs H'
noncomputable def SP (X:Cx) (pins:List (Addr×Obj)) (D:Ends) (f:Flow) (s':Shared):Prop :=
 match f with
 | .next=>∃ σ' H',Inv X pins σ' H' s'∧D.nx σ' H'
 | .brk=>∃ σ' H',Inv X pins σ' H' s'∧D.bk σ' H'
 | .cont=>∃ σ' H',Inv X pins σ' H' s'∧D.ct σ' H'
 | .ret u=>∃ v σ' H',Inv X pins σ' H' s'∧RelV v u∧D.rt v H'
noncomputable def PE (X:Cx) (e:Expr) (t:TE):Prop :=
 ∀ (pins:List (Addr×Obj)) (s:Shared) (σ:St) (H:Hp) (Q:VK),Inv X pins σ H s→t σ H Q→wpAny (model X.prog X.w) X.A (eval e X.env) (EP X pins σ Q) X.xe s
noncomputable def PT (X:Cx) (e:Expr) (t:TT):Prop :=
 ∀ (pins:List (Addr×Obj)) (s:Shared) (σ:St) (H:Hp) (Q:Bool→Hp→Prop),Inv X pins σ H s→t σ H Q→wpAny (model X.prog X.w) X.A (isTrue e X.env (eval e X.env)) (TP X pins σ Q) X.xe s
noncomputable def PW (X:Cx) (e:Expr) (t:TT):Prop :=
 ∀ (whole:Sem Value) (pins:List (Addr×Obj)) (s:Shared) (σ:St) (H:Hp) (Q:Bool→Hp→Prop),Inv X pins σ H s→t σ H Q→wpAny (model X.prog X.w) X.A (isTrue e X.env whole) (TP X pins σ Q) X.xe s
theorem PW.pt {X:Cx} {e:Expr} {t:TT} (h:PW X e t):PT X e t:=h _
noncomputable def PA (X:Cx) (es:List Expr) (t:TA):Prop :=
 ∀ (pos:Pos) (pins:List (Addr×Obj)) (s:Shared) (σ:St) (H:Hp) (Q:List V→Hp→Prop),Inv X pins σ H s→t σ H Q→wpAny (model X.prog X.w) X.A (spliced (backTo pos (starEach es X.env))) (AP X pins σ Q) X.xe s
noncomputable def PS (X:Cx) (st:Stmt) (t:TS):Prop :=
 ∀ (pins:List (Addr×Obj)) (s:Shared) (σ:St) (H:Hp) (D:Ends),Inv X pins σ H s→t D σ H→wpAny (model X.prog X.w) X.A (exec st X.env) (SP X pins D) X.xe s
noncomputable def PSs (X:Cx) (st:List Stmt) (t:TS):Prop :=
 ∀ (pins:List (Addr×Obj)) (s:Shared) (σ:St) (H:Hp) (D:Ends),Inv X pins σ H s→t D σ H→wpAny (model X.prog X.w) X.A (execs st X.env) (SP X pins D) X.xe s
theorem thn {α:Type} {t:Sem α} {Q Q':α→Shared→Prop} {M:Model} {A:Around} {E:Value→Shared→Prop} {s:Shared} (h:wpAny M A t Q E s) (hQ:∀ a s,Q a s→Q' a s):wpAny M A t Q' E s:=wpAny_mono h hQ fun _ _ x=>x
end L2
namespace L2
open PySem PySem.Spec PyProof.Rows
section
variable {X:Cx}
theorem bin {a b:Expr} {ta tb:TE} (ha:PE X a ta) (hb:PE X b tb) {pins:List (Addr×Obj)} {s:Shared} {σ:St} {H:Hp} {R:V→V→Hp→Prop} (I:Inv X pins σ H s) (h:ta σ H fun x H1=>tb σ H1 fun y H2=>R x y H2)
  {α:Type} {Q:α→Shared→Prop} {f:Value→Value→Sem α}
  (hf:∀ v u s2 x y H2,Inv X pins σ H2 s2→RelV x v→RelV y u→R x y H2→wpAny (model X.prog X.w) X.A (f v u) Q X.xe s2) :
  wpAny (model X.prog X.w) X.A (eval a X.env) (fun v s₁=>wpAny (model X.prog X.w) X.A (eval b X.env) (fun u s₂=>wpAny (model X.prog X.w) X.A (f v u) Q X.xe s₂) X.xe s₁) X.xe s:=by
 refine thn (ha pins s σ H _ I h) fun v s1 ⟨x,H1,I1,r1,q1⟩=>?_
 refine thn (hb pins s1 σ H1 _ I1 q1) fun u s2 ⟨y,H2,I2,r2,q2⟩=>?_
 exact hf v u s2 x y H2 I2 r1 r2 q2
noncomputable def tVar (i:Nat):TE:=fun σ H Q=>∃ v,σ[i]? = some (some v)∧Q v H
noncomputable def tC (v:V):TE:=fun _ H Q=>Q v H
theorem pe_var {i:Nat} {x:Str} {pos:Pos} (hN:X.N[i]? = some x) (hv:Vis X.env.scope x) (hd:(x == ("__debug__" : Str))=false:=by decide) (hcd:(x == ("__classdict__" : Str))=false:=by decide):PE X (.Name x pos) (tVar i):=by
 intro pins s σ H Q I h
 obtain ⟨v,e,h⟩:=h
 obtain ⟨m,hn,hl⟩:=I.loc
 obtain ⟨u,r,l⟩:=hl i x v hN e hv
 have fin:EP X pins σ Q u s:=⟨v,H,I,r,h⟩
 rcases l with ⟨hk,hm⟩ | ⟨hk,c,hc,hcell⟩
 ·exact wpAny_Name (wpAny_loadName_local I.ok.kind hk hn hm fin) hd
 ·rcases hk with hk | hk
  ·exact wpAny_Name (wpAny_loadName_cell I.ok.kind hk hc hcell fin) hd
  ·exact wpAny_Name (wpAny_loadName_free I.ok.kind hk hc hcell fin hcd) hd
theorem pe_int {i j pos}:PE X (.Constant (.int i) j pos) (tC (.int i)):=fun _ _ _ H _ I h=>wpAny_Constant_int ⟨.int i,H,I.tok _,⟨_,rfl⟩,h⟩
theorem pe_bl {b j pos}:PE X (.Constant (.bool b) j pos) (tC (.bl b)):=fun _ _ _ H _ I h=>Constant_bool ⟨.bl b,H,I,rfl,h⟩
theorem pe_non {j pos}:PE X (.Constant .none j pos) (tC .non):=fun _ _ _ H _ I h=>Constant_none ⟨.non,H,I,rfl,h⟩
theorem pe_str {x j pos}:PE X (.Constant (.str x) j pos) (tC (.str x)):=fun _ _ _ H _ I h=>Calls.Constant_str ⟨.str x,H,I.tok _,⟨_,rfl⟩,h⟩
noncomputable def Gl (X:Cx) (x:Str):Prop:=X.env.kindOf x=some .globalImplicit
theorem ld_glob {E:Value→Shared→Prop} {pins:List (Addr×Obj)} {s:Shared} {σ:St} {H:Hp} {x:Str} {u:Value} {pos:Pos} {Q:Value→Shared→Prop} (I:Inv X pins σ H s) (hg:Gl X x) (hm:X.mg x=some u) (h:Q u s)
  (hd:(x == ("__debug__" : Str))=false:=by decide):wpAny (model X.prog X.w) X.A (eval (.Name x pos) X.env) Q E s :=
 Calls.Name_function_global I.ok.kind hg (Calls.loadGlobal_global (by rw [I.ok.glob]; exact I.mod.glob.keeps I.bk) hm h) hd
theorem ld_blt {E:Value→Shared→Prop} {pins:List (Addr×Obj)} {s:Shared} {σ:St} {H:Hp} {x:Str} {u:Value} {pos:Pos} {Q:Value→Shared→Prop} (I:Inv X pins σ H s) (hg:Gl X x) (hm:X.mg x=none) (hv:bootBuiltins x=some u) (h:Q u s)
  (hn:x≠"__name__":=by decide) (hd:(x == ("__debug__" : Str))=false:=by decide):wpAny (model X.prog X.w) X.A (eval (.Name x pos) X.env) Q E s:=by
 obtain ⟨mb,h1,h2⟩:=I.mod.blt
 exact Calls.Name_function_global I.ok.kind hg (Calls.loadGlobal_builtin (by rw [I.ok.glob]; exact I.mod.glob.keeps I.bk) hm (by rw [I.ok.blt]; exact h1.keeps I.bk) ((h2 x hn).trans hv) h) hd
theorem pe_glob {x:Str} {v:V} {u:Value} {pos:Pos} (hg:Gl X x) (hm:X.mg x=some u) (r:RelV v u) (hd:(x == ("__debug__" : Str))=false:=by decide):PE X (.Name x pos) (tC v) :=
 fun _ _ _ H _ I h=>ld_glob I hg hm ⟨v,H,I,r,h⟩ hd
theorem pe_bltn {x:Str} {v:V} {u:Value} {pos:Pos} (hg:Gl X x) (hm:X.mg x=none) (hv:bootBuiltins x=some u) (r:RelV v u) (hn:x≠"__name__":=by decide) (hd:(x == ("__debug__" : Str))=false:=by decide):PE X (.Name x pos) (tC v) :=
 fun _ _ _ H _ I h=>ld_blt I hg hm hv ⟨v,H,I,r,h⟩ hn hd
variable {a b:Expr} {ta tb:TE} {pos:Pos}
variable {tA tB':TT} {rest:List Expr}
noncomputable def tAnd (t u:TT):TT:=fun σ H Q=>t σ H fun c H1=>if c=true then u σ H1 Q else Q false H1
noncomputable def tOr (t u:TT):TT:=fun σ H Q=>t σ H fun c H1=>if c=true then Q true H1 else u σ H1 Q
noncomputable def tNot (t:TT):TT:=fun σ H Q=>t σ H fun c H1=>Q (!c) H1
theorem pw_and1 (ha:PT X a tA):PW X (.BoolOp .And [a] pos) tA:=by
 intro wh pins s σ H Q I h
 refine isTrue_and (thn (ha pins s σ H Q I h) fun c s1 e=>?_)
 cases c with
 | true=>exact isTrue_and_nil e
 | false=>exact e
theorem pw_or1 (ha:PT X a tA):PW X (.BoolOp .Or [a] pos) tA:=by
 intro wh pins s σ H Q I h
 refine isTrue_or (thn (ha pins s σ H Q I h) fun c s1 e=>?_)
 cases c with
 | false=>exact isTrue_or_nil e
 | true=>exact e
theorem pw_and (ha:PT X a tA) (hb:PW X (.BoolOp .And (b :: rest) pos) tB'):PW X (.BoolOp .And (a :: b :: rest) pos) (tAnd tA tB'):=by
 intro wh pins s σ H Q I h
 refine isTrue_and (thn (ha pins s σ H _ I h) fun c s1 ⟨H1,I1,q1⟩=>?_)
 cases c with
 | true=>exact hb wh pins s1 σ H1 Q I1 q1
 | false=>exact ⟨H1,I1,q1⟩
theorem pw_or (ha:PT X a tA) (hb:PW X (.BoolOp .Or (b :: rest) pos) tB'):PW X (.BoolOp .Or (a :: b :: rest) pos) (tOr tA tB'):=by
 intro wh pins s σ H Q I h
 refine isTrue_or (thn (ha pins s σ H _ I h) fun c s1 ⟨H1,I1,q1⟩=>?_)
 cases c with
 | true=>exact ⟨H1,I1,q1⟩
 | false=>exact hb wh pins s1 σ H1 Q I1 q1
theorem pt_not (ha:PT X a tA):PT X (.UnaryOp .Not a pos) (tNot tA):=by
 intro pins s σ H Q I h
 exact isTrue_not (ha pins s σ H (fun c H1=>Q (!c) H1) I h)
noncomputable def tAndV (ta tb:TE):TE:=fun σ H Q=>ta σ H fun x H1=>∃ c,x = .bl c∧if c=true then tb σ H1 Q else Q (.bl false) H1
noncomputable def tOrV (ta tb:TE):TE:=fun σ H Q=>ta σ H fun x H1=>∃ c,x = .bl c∧if c=true then Q (.bl true) H1 else tb σ H1 Q
noncomputable def tNotV (ta:TE):TE:=fun σ H Q=>ta σ H fun x H1=>∃ c,x = .bl c∧Q (.bl (!c)) H1
theorem pe_one {op} {t:TE} (h:PE X a t):PE X (.BoolOp op [a] pos) t:=fun pins s σ H Q I hw=>BoolOp_one (h pins s σ H Q I hw)
theorem pe_and (ha:PE X a ta) (hb:PE X (.BoolOp .And (b :: rest) pos) tb):PE X (.BoolOp .And (a :: b :: rest) pos) (tAndV ta tb):=by
 intro pins s σ H Q I h
 refine BoolOp_and (thn (ha pins s σ H _ I h) fun v s1 ⟨x,H1,I1,r1,q1⟩=>?_)
 obtain ⟨c,rfl,q1⟩:=q1
 cases r1
 refine wpAny_truthy_bool ?_
 cases c with
 | true=>exact hb pins s1 σ H1 Q I1 q1
 | false=>exact ⟨.bl false,H1,I1,rfl,q1⟩
theorem pe_or (ha:PE X a ta) (hb:PE X (.BoolOp .Or (b :: rest) pos) tb):PE X (.BoolOp .Or (a :: b :: rest) pos) (tOrV ta tb):=by
 intro pins s σ H Q I h
 refine BoolOp_or (thn (ha pins s σ H _ I h) fun v s1 ⟨x,H1,I1,r1,q1⟩=>?_)
 obtain ⟨c,rfl,q1⟩:=q1
 cases r1
 refine wpAny_truthy_bool ?_
 cases c with
 | false=>exact hb pins s1 σ H1 Q I1 q1
 | true=>exact ⟨.bl true,H1,I1,rfl,q1⟩
theorem pe_not (ha:PE X a ta):PE X (.UnaryOp .Not a pos) (tNotV ta):=by
 intro pins s σ H Q I h
 refine UnaryOp_ (thn (ha pins s σ H _ I h) fun v s1 ⟨x,H1,I1,r1,q1⟩=>?_)
 obtain ⟨c,rfl,q1⟩:=q1
 cases r1
 exact not_of (wpAny_truthy_bool ⟨.bl (!c),H1,I1,rfl,q1⟩)
noncomputable def tIf (t:TT) (ta tb:TE):TE:=fun σ H Q=>t σ H fun c H1=>if c=true then ta σ H1 Q else tb σ H1 Q
theorem pe_ifExp {c:Expr} (hc:PT X c tA) (ha:PE X a ta) (hb:PE X b tb):PE X (.IfExp c a b pos) (tIf tA ta tb):=by
 intro pins s σ H Q I h
 refine wpAny_IfExp (thn (hc pins s σ H _ I h) fun d s1 ⟨H1,I1,q1⟩=>?_)
 cases d with
 | true=>exact ha pins s1 σ H1 Q I1 q1
 | false=>exact hb pins s1 σ H1 Q I1 q1
end
end L2
namespace L2
open PySem PySem.Spec PyProof.Rows
noncomputable def SqL (K:PySem.W.Frag) (H:Hp) (a:Addr) (xs:List V):Prop :=
 Rd H a (.lst xs) ∨
  ∃ (o:Obj) (its:Array Value) (n:Nat),K.lookup a=some o∧o.cls = .type "list"∧o.dict=none∧o.data = .seq its n∧its.size≤sizeLine∧Vals xs its.toList
noncomputable def SqT (K:PySem.W.Frag) (H:Hp) (a:Addr) (xs:List V):Prop :=
 Rd H a (.tup xs) ∨
  ∃ (o:Obj) (its:Array Value) (n:Nat),K.lookup a=some o∧o.cls = .type "tuple"∧o.data = .seq its n∧its.size≤sizeLine∧Vals xs its.toList
noncomputable def absV:Value→Option V
 | .none=>some .non
 | .bool b=>some (.bl b)
 | .int i _=>some (.int i)
 | .str x _=>some (.str x)
 | .bytes b _=>some (.byt b)
 | .float b _=>some (.flt b)
 | .ref a=>some (.ref a)
 | .type n=>some (.ty n)
 | _=>none
theorem RelV.abs {x:V} {u:Value} (r:RelV x u):absV u=some x:=by
 cases x with
 | non=>cases r; rfl
 | bl _=>cases r; rfl
 | int _=>obtain ⟨t,rfl⟩:=r; rfl
 | str _=>obtain ⟨t,rfl⟩:=r; rfl
 | byt _=>obtain ⟨t,rfl⟩:=r; rfl
 | flt _=>obtain ⟨t,rfl⟩:=r; rfl
 | ref _=>cases r; rfl
 | ty _=>cases r; rfl
theorem RelV.inj {x y:V} {u:Value} (r:RelV x u) (q:RelV y u):x=y:=Option.some.inj (r.abs.symm.trans q.abs)
theorem Vals.inj:∀ {xs ys:List V} {us:List Value},Vals xs us→Vals ys us→xs=ys
 | _,_,_,.nil,.nil=>rfl
 | _,_,_,.cons r t,.cons r' t'=>by rw [r.inj r',Vals.inj t t']
section
variable {X:Cx} {pins:List (Addr×Obj)} {σ:St} {H:Hp} {s:Shared} {a:Addr} {xs ys:List V}
theorem SqL.of {K:PySem.W.Frag} (h:H a=some (.lst xs)):SqL K H a xs:=.inl (.inl h)
theorem SqT.of {K:PySem.W.Frag} (h:H a=some (.tup xs)):SqT K H a xs:=.inl (.inl h)
theorem Inv.list (I:Inv X pins σ H s) (h:SqL X.K H a xs):∃ its:List Value,Vals xs its∧PlainL s.heap a its.toArray∧xs.length≤sizeLine:=by
 rcases h with h | ⟨o,its,n,hk,hc,hd,hs,hz,r⟩
 ·obtain ⟨z,its,n,r,e⟩:=h.ok I.hok
  exact ⟨its,r,⟨_,n,e,rfl,rfl,rfl⟩,z⟩
 ·refine ⟨its.toList,r,⟨o,n,I.kIn a o hk,hc,hd,by simpa using hs⟩,?_⟩
  have e:=r.length
  simp only [Array.length_toList] at e
  omega
theorem Inv.tuple (I:Inv X pins σ H s) (h:SqT X.K H a xs):∃ its:List Value,Vals xs its∧IsTup s.heap a its.toArray∧xs.length≤sizeLine:=by
 rcases h with h | ⟨o,its,n,hk,hc,hs,hz,r⟩
 ·obtain ⟨z,its,r,p⟩:=h.ok I.hok
  exact ⟨its,r,p.is,z⟩
 ·refine ⟨its.toList,r,⟨o,I.kIn a o hk,hc,n,by simpa using hs⟩,?_⟩
  have e:=r.length
  simp only [Array.length_toList] at e
  omega
theorem Inv.list_inj (I:Inv X pins σ H s) (h:SqL X.K H a xs) (h':SqL X.K H a ys):xs=ys:=by
 obtain ⟨its,r,⟨o,n,e,_,_,d⟩,_⟩:=I.list h
 obtain ⟨its',r',⟨o',n',e',_,_,d'⟩,_⟩:=I.list h'
 rw [e] at e'; cases e'
 rw [d] at d'
 injection d' with d1 _
 have:its=its':=by simpa using congrArg Array.toList d1
 subst this
 exact r.inj r'
theorem Inv.tuple_inj (I:Inv X pins σ H s) (h:SqT X.K H a xs) (h':SqT X.K H a ys):xs=ys:=by
 obtain ⟨its,r,⟨o,e,_,n,d⟩,_⟩:=I.tuple h
 obtain ⟨its',r',⟨o',e',_,n',d'⟩,_⟩:=I.tuple h'
 rw [e] at e'; cases e'
 rw [d] at d'
 injection d' with d1 _
 have:its=its':=by simpa using congrArg Array.toList d1
 subst this
 exact r.inj r'
end
noncomputable abbrev Cx.wish (X:Cx) (E:Value→Shared→Prop):Cx:={ X with xe:=E }
noncomputable abbrev Cx.nox (X:Cx):Cx:=X.wish fun _ _=>False
theorem Cx.Ok.wish {X:Cx} (ok:X.Ok) (E:Value→Shared→Prop):(X.wish E).Ok :=
 ⟨ok.mod,ok.kind,ok.glob,ok.blt,ok.above,ok.inj,ok.has,ok.cab,ok.hd,ok.frames,ok.stk,ok.exf,ok.bs,ok.bsz,ok.noex,ok.exfs,ok.funs,ok.frf⟩
theorem Cx.Ok.unwish {X:Cx} {E:Value→Shared→Prop} (ok:(X.wish E).Ok):X.Ok :=
 ⟨ok.mod,ok.kind,ok.glob,ok.blt,ok.above,ok.inj,ok.has,ok.cab,ok.hd,ok.frames,ok.stk,ok.exf,ok.bs,ok.bsz,ok.noex,ok.exfs,ok.funs,ok.frf⟩
section
variable {X:Cx} {pins:List (Addr×Obj)} {σ:St} {H:Hp} {s:Shared} {E:Value→Shared→Prop}
theorem Inv.wish (I:Inv X pins σ H s) (E:Value→Shared→Prop):Inv (X.wish E) pins σ H s:=⟨I.ok.wish E,I.os,I.bare,I.base,I.loc,I.cell,I.free,I.freeC,I.pin,I.hok,I.len,I.hh⟩
theorem Inv.unwish (I:Inv (X.wish E) pins σ H s):Inv X pins σ H s:=⟨I.ok.unwish,I.os,I.bare,I.base,I.loc,I.cell,I.free,I.freeC,I.pin,I.hok,I.len,I.hh⟩
theorem SP.unwish {D:Ends} {f:Flow} {s':Shared} (h:SP (X.wish E) pins D f s'):SP X pins D f s':=by
 cases f with
 | next=>obtain ⟨σ',H',I,q⟩:=h; exact ⟨σ',H',I.unwish,q⟩
 | brk=>obtain ⟨σ',H',I,q⟩:=h; exact ⟨σ',H',I.unwish,q⟩
 | cont=>obtain ⟨σ',H',I,q⟩:=h; exact ⟨σ',H',I.unwish,q⟩
 | ret u=>obtain ⟨v,σ',H',I,r,q⟩:=h; exact ⟨v,σ',H',I.unwish,r,q⟩
theorem PE.nox {e:Expr} {t:TE} (h:PE X.nox e t):PE X e t:=fun pins s σ H Q I hw =>
 wpAny_mono (h pins s σ H Q (I.wish _) hw) (fun _ _ ⟨v,H',I',r,q⟩=>⟨v,H',I'.unwish,r,q⟩) fun _ _ z=>False.elim z
theorem PT.nox {e:Expr} {t:TT} (h:PT X.nox e t):PT X e t:=fun pins s σ H Q I hw =>
 wpAny_mono (h pins s σ H Q (I.wish _) hw) (fun _ _ ⟨H',I',q⟩=>⟨H',I'.unwish,q⟩) fun _ _ z=>False.elim z
theorem PSs.nox {st:List Stmt} {t:TS} (h:PSs X.nox st t):PSs X st t:=fun pins s σ H D I hw =>
 wpAny_mono (h pins s σ H D (I.wish _) hw) (fun _ _ q=>q.unwish) fun _ _ z=>False.elim z
end
section
variable {X:Cx} {st:Stmt} {rest:List Stmt} {t u:TS} {e:Expr} {te:TE} {pos:Pos}
noncomputable def tNext:TS:=fun D σ H=>D.nx σ H
noncomputable def tSeq (t u:TS):TS:=fun D σ H=>t { D with nx:=u D } σ H
theorem pss_nil:PSs X [] tNext:=fun _ _ σ H _ I h=>wpAny_execs_nil ⟨σ,H,I,h⟩
theorem pss_cons (h1:PS X st t) (h2:PSs X rest u):PSs X (st :: rest) (tSeq t u):=by
 intro pins s σ H D I h
 refine wpAny_execs_cons (thn (h1 pins s σ H { D with nx:=u D } I h) fun f s1 q=>?_)
 cases f with
 | next =>
  obtain ⟨σ',H',I',q⟩:=q
  exact h2 pins s1 σ' H' D I' q
 | ret v=>exact q
 | brk=>exact q
 | cont=>exact q
theorem Inv.quiet {pins:List (Addr×Obj)} {σ:St} {H:Hp} {s:Shared} (I:Inv X pins σ H s):interactive X.env=false:=by simp [interactive,I.ok.kind]
noncomputable def tDrop (te:TE):TS:=fun D σ H=>te σ H fun _ H1=>D.nx σ H1
theorem ps_expr (he:PE X e te) (hs:swapsWith e none pos.line X.env=pure false:=by rfl):PS X (.Expr e pos) (tDrop te):=by
 intro pins s σ H D I h
 exact wpAny_Expr_any (thn (he pins s σ H _ I h) fun v s1 ⟨x,H1,I1,r1,q1⟩=>⟨σ,H1,I1,q1⟩) I.quiet hs
noncomputable def tRet (te:TE):TS:=fun D σ H=>te σ H D.rt
theorem ps_ret (he:PE X e te):PS X (.Return (some e) pos) (tRet te):=by
 intro pins s σ H D I h
 exact wpAny_Return_some (thn (he pins s σ H _ I h) fun v s1 ⟨x,H1,I1,r1,q1⟩=>⟨x,σ,H1,I1,r1,q1⟩)
noncomputable def tIfS (c:TT) (t u:TS):TS:=fun D σ H=>c σ H fun b H1=>if b=true then t D σ H1 else u D σ H1
theorem ps_if {c:Expr} {a b:List Stmt} {tc:TT} (hc:PT X c tc) (ha:PSs X a t) (hb:PSs X b u):PS X (.If c a b pos) (tIfS tc t u):=by
 intro pins s σ H D I h
 refine wpAny_If (thn (hc pins s σ H _ I h) fun d s1 ⟨H1,I1,q1⟩=>?_)
 cases d with
 | true=>exact ha pins s1 σ H1 D I1 q1
 | false=>exact hb pins s1 σ H1 D I1 q1
end
noncomputable abbrev TG:=V→St→Hp→(St→Hp→Prop)→Prop
noncomputable abbrev TGs:=List V→St→Hp→(St→Hp→Prop)→Prop
noncomputable def PG (X:Cx) (target:Expr) (t:TG):Prop :=
 ∀ (pins:List (Addr×Obj)) (s:Shared) (σ:St) (H:Hp) (v:V) (u:Value) (Q:St→Hp→Prop),Inv X pins σ H s→RelV v u→t v σ H Q →
  wpAny (model X.prog X.w) X.A (assign target X.env u) (fun _ s'=>∃ σ' H',Inv X pins σ' H' s'∧Q σ' H') X.xe s
noncomputable def PGs (X:Cx) (ts:List Expr) (t:TGs):Prop :=
 ∀ (pins:List (Addr×Obj)) (s:Shared) (σ:St) (H:Hp) (vs:List V) (us:List Value) (Q:St→Hp→Prop),Inv X pins σ H s→Vals vs us→t vs σ H Q →
  wpAny (model X.prog X.w) X.A (assignInOrder ((assignEach ts X.env).map (·.2)) us) (fun _ s'=>∃ σ' H',Inv X pins σ' H' s'∧Q σ' H') X.xe s
noncomputable abbrev TSet:=V→V→V→Hp→(Hp→Prop)→Prop
noncomputable def PSet (X:Cx) (t:TSet):Prop :=
 ∀ (pins:List (Addr×Obj)) (s:Shared) (σ:St) (H:Hp) (o i v:V) (ov iv u:Value) (Q:Hp→Prop),Inv X pins σ H s→RelV o ov→RelV i iv→RelV v u→t o i v H Q →
  wpAny (model X.prog X.w) X.A (setItem ov iv u) (fun _ s'=>∃ H',Inv X pins σ H' s'∧Q H') X.xe s
section
variable {X:Cx} {pos:Pos}
noncomputable def gName (i:Nat):TG:=fun v σ H Q=>Q (σ.set i (some v)) H
theorem pg_name {i:Nat} {x:Str} (hN:X.N.Nodup) (hi:X.N[i]? = some x) (hx:Loc X.env.scope x) (hf:X.fn x=true∨X.env.scope.names.lookup x=some .local:=by first | exact .inl rfl | exact .inr rfl | assumption):PG X (.Name x pos) (gName i):=by
 intro pins s σ H v u Q I r h
 exact wpAny_assign_Name (store_ok I hN hi hx r (fun s' I'=>⟨_,H,I',h⟩) hf)
noncomputable def gNil:TGs:=fun vs σ H Q=>vs=[]∧Q σ H
noncomputable def gCons (t:TG) (u:TGs):TGs:=fun vs σ H Q=>∃ v r,vs=v :: r∧t v σ H fun σ' H'=>u r σ' H' Q
theorem pgs_nil:PGs X [] gNil:=by
 intro pins s σ H vs us Q I r h
 obtain ⟨e,h⟩:=h
 subst e
 cases r
 exact assignInOrder_nil ⟨σ,H,I,h⟩
theorem pgs_cons {e:Expr} {es:List Expr} {t:TG} {u:TGs} (h1:PG X e t) (h2:PGs X es u)
  (hs:(assignEach (e :: es) X.env).map (·.2)=assign e X.env :: (assignEach es X.env).map (·.2):=by rfl):PGs X (e :: es) (gCons t u):=by
 intro pins s σ H vs us Q I r h
 obtain ⟨v,vr,e1,h⟩:=h
 subst e1
 cases r with
 | cons r rr =>
  rw [hs]
  refine assignInOrder_cons (thn (h1 pins s σ H _ _ _ I r h) fun _ s1 ⟨σ1,H1,I1,q1⟩=>?_)
  exact h2 pins s1 σ1 H1 _ _ Q I1 rr q1
noncomputable def gTup (K:PySem.W.Frag) (n:Nat) (t:TGs):TG:=fun v σ H Q=>∃ a xs,v = .ref a∧SqT K H a xs∧xs.length=n∧t xs σ H Q
theorem pg_tup {es:List Expr} {k:Nat} {t:TGs} {n:Nat} (hc:X.calm=true) (h:PGs X es t)
  (hn:(assignEach es X.env).length=n:=by rfl) (hst:(assignEach es X.env).findIdx? (·.1)=none:=by rfl):PG X (.Tuple es k pos) (gTup X.K n t):=by
 intro pins s σ H v u Q I r hw
 obtain ⟨a,xs,e1,hq,hl,hw⟩:=hw
 subst e1
 cases r
 obtain ⟨its,rv,ht,hz⟩:=I.tuple hq
 refine assign_Tuple_tuple (I.ok.hd hc) ht (by simp [hn,← hl,rv.length]) hst fun h' hx=>?_
 have I1:Inv X pins σ H { s with heap:=h' }:=I.kept (t':=s.toks) fun b o e=>hx b o (Nat.ne_of_lt (Heap.lt_size e)) e
 exact h pins _ σ H xs _ Q I1 (by simpa using rv) hw
noncomputable def gSub (to ti:TE) (t:TSet):TG:=fun v σ H Q=>to σ H fun o H1=>ti σ H1 fun i H2=>t o i v H2 fun H3=>Q σ H3
theorem pg_sub {o i:Expr} {to ti:TE} {t:TSet} (ho:PE X o to) (hi:PE X i ti) (hs:PSet X t)
  (ha:∀ v,assign (.Subscript o i pos) X.env v=(do
   let ov ← holding [v] (eval o X.env)
   let iv ← holding [v,ov] (eval i X.env)
   standAt pos
   holding [v,ov,iv] (setItem ov iv v)
   release [v,ov,iv] []):=by intro _; rfl):PG X (.Subscript o i pos) (gSub to ti t):=by
 intro pins s σ H v u Q I r h
 rw [ha]
 refine wpAny_bind (wpAny_holding (thn (ho pins s σ H _ I h) fun ov s1 ⟨x,H1,I1,r1,q1⟩=>?_))
 refine wpAny_bind (wpAny_holding (thn (hi pins s1 σ H1 _ I1 q1) fun iv s2 ⟨y,H2,I2,r2,q2⟩=>?_))
 refine wpAny_bind (wpAny_standAt (wpAny_bind (wpAny_holding (thn (hs pins s2 σ H2 x y v ov iv u _ I2 r1 r2 r q2) fun _ s3 ⟨H3,I3,q3⟩=>?_))))
 exact wpAny_release ⟨σ,H3,I3,q3⟩
noncomputable def tAsg (te:TE) (g:TG):TS:=fun D σ H=>te σ H fun x H1=>g x σ H1 D.nx
theorem ps_asg {tg e:Expr} {te:TE} {g:TG} (he:PE X e te) (hg:PG X tg g) (hs:swapsWithSole [tg] e pos.line X.env=pure false:=by rfl) (hw:swappedStores [tg] e X.env=pure none:=by rfl)
  (h1:(assignEach [tg] X.env).map (·.2)=[assign tg X.env]:=by rfl):PS X (.Assign [tg] e pos) (tAsg te g):=by
 intro pins s σ H D I h
 refine wpAny_Assign_stores (thn (he pins s σ H _ I h) fun v s1 ⟨x,H1,I1,r1,q1⟩=>?_) hs hw
 rw [h1]
 exact thn (hg pins s1 σ H1 x v _ I1 r1 q1) fun _ s2 q=>q
theorem ps_set {i:Nat} {x:Str} {e:Expr} {te:TE} {pos':Pos} (hN:X.N.Nodup) (hi:X.N[i]? = some x) (hx:Loc X.env.scope x) (he:PE X e te) (hs:swapsWith e (some (.Name x pos')) pos.line X.env=pure false:=by rfl) (hf:X.fn x=true∨X.env.scope.names.lookup x=some .local:=by first | exact .inl rfl | exact .inr rfl | assumption) :
  PS X (.Assign [.Name x pos'] e pos) (tAsg te (gName i)):=by
 intro pins s σ H D I h
 refine wpAny_Assign_Name (thn (he pins s σ H _ I h) fun v s1 ⟨y,H1,I1,r1,q1⟩=>?_) hs
 exact store_ok I1 hN hi hx r1 (fun s2 I2=>⟨_,H1,I2,q1⟩) hf
end
section
variable {X:Cx} {pos:Pos}
end
structure It where
 go:Nat→Hp→Prop
 yld:Nat→Hp→V→Hp→Prop
 stop:Nat→Hp→Prop
noncomputable def FpOk (X:Cx) (pins:List (Addr×Obj)) (H:Hp) (b:Addr):Prop :=
 H b=none∧b≠X.env.locals∧b ∉ X.fs∧(b∈X.ex∨X.s₀.heap.objs.size≤b)∧(∀ x c,X.env.cells.lookup x=some c→c≠b)∧∀ p∈X.pn ++ pins,p.1≠b
theorem Inv.fpOk {X:Cx} {pins:List (Addr×Obj)} {σ:St} {H H':Hp} {s:Shared} {b:Addr} (I:Inv X pins σ H s) (hb:s.heap.objs.size≤b) (hn:H' b=none):FpOk X pins H' b:=by
 refine ⟨hn,Nat.ne_of_gt (Nat.lt_of_lt_of_le I.lt hb),I.nofs hb,.inr (Nat.le_trans I.sz hb),fun x c e z=>?_,fun p hp z=>?_⟩
 ·obtain ⟨v,q⟩:=I.cell x c e
  exact absurd (Nat.lt_of_lt_of_le q.lt (by rw [z]; exact hb)) (Nat.lt_irrefl _)
 ·exact absurd (Nat.lt_of_lt_of_le (Heap.lt_size (I.pin p hp).1) (by rw [z]; exact hb)) (Nat.lt_irrefl _)
structure Turn (cb:Bool) (P:Program) (w:World) (K:PySem.W.Frag) (tg:Expr) (J:It) (fp:List Addr) (it:Addr) (tn:Nat→Heap→Prop):Prop where
 mem:it∈fp
 obj:∀ i h,tn i h→∀ b∈fp,∃ o,h.get? b=some o∧∀ v,o.data≠.cell v
 keep:∀ i h h',tn i h→(∀ b∈fp,∀ o,h.get? b=some o→h'.get? b=some o)→tn i h'
 item:∀ (X:Cx),X.prog=P→X.w=w→X.K=K→X.calm=cb→∀ (i:Nat) (pins:List (Addr×Obj)) (s:Shared) (σ:St) (H:Hp) (E:Value→Shared→Prop),Inv X pins σ H s→(∀ b∈fp,FpOk X pins H b)→tn i s.heap→J.go i H →
  wpAny (model P w) X.A (pyNext (.ref it)) (fun r s1=>∃ u,r=some u ∧
   wpAny (model P w) X.A (letOwnedTupleGo tg (.ref it) u) (fun _ s2=>∃ x H',Inv X pins σ H' s2∧RelV x u∧J.yld i H x H'∧tn (i + 1) s2.heap∧∀ b∈fp,H' b=none) E s1) E s
 done:∀ (X:Cx),X.prog=P→X.w=w→X.K=K→X.calm=cb→∀ (i:Nat) (pins:List (Addr×Obj)) (s:Shared) (σ:St) (H:Hp) (E:Value→Shared→Prop),Inv X pins σ H s→(∀ b∈fp,FpOk X pins H b)→tn i s.heap→J.stop i H →
  wpAny (model P w) X.A (pyNext (.ref it)) (fun r s1=>r=none∧Inv X pins σ H s1) E s
 self:∀ (A:Around) (i:Nat) (s:Shared) (Q:Value→Shared→Prop) (E:Value→Shared→Prop),tn i s.heap→Q (.ref it) s→wpAny (model P w) A (pyIter (.ref it)) Q E s
noncomputable abbrev TI:=St→Hp→(It→Hp→Prop)→Prop
noncomputable def PIE (X:Cx) (pins:List (Addr×Obj)) (σ:St) (tg:Expr) (R:It→Hp→Prop) (itv:Value) (s2:Shared):Prop :=
 ∃ (it:Addr) (fp:List Addr) (tn:Nat→Heap→Prop) (J:It) (H':Hp),itv = .ref it∧Inv X pins σ H' s2∧Turn X.calm X.prog X.w X.K tg J fp it tn∧tn 0 s2.heap∧(∀ b∈fp,FpOk X pins H' b)∧R J H'
noncomputable def PI (X:Cx) (tg iter:Expr) (wi:TI):Prop :=
 ∀ (pins:List (Addr×Obj)) (s:Shared) (σ:St) (H:Hp) (R:It→Hp→Prop),Inv X pins σ H s→wi σ H R →
  wpAny (model X.prog X.w) X.A (eval iter X.env) (fun v s1=>wpAny (model X.prog X.w) X.A (pyIter v) (PIE X pins σ tg R) X.xe s1) X.xe s
theorem go_of {M : Model} {A : Around} {E : Value → Shared → Prop} {s : Shared} {tg : Expr} {it : Addr} {u : Value} {o : Obj} {n : String} {vs : Array Value} {Q : Unit → Shared → Prop} (ho : s.heap.get? it = some o) (hc : o.cls = .type n) (hd : o.data = .fields vs)
    (hn : ["enumerate", "zip", "dict_itemiterator", "dict_reverseitemiterator", "odict_iterator", "itertools.zip_longest", "itertools.pairwise"].contains n = false) (hQ : Q () s) : wpAny M A (letOwnedTupleGo tg (.ref it) u) Q E s := by
  unfold letOwnedTupleGo
  cases tg <;> first
    | exact wpAny_pure hQ
    | (cases u <;> first
        | exact wpAny_pure hQ
        | (refine wpAny_bind (wpAny_load ho ?_)
           rw [hc, hd]
           show wpAny M A (if (["enumerate", "zip", "dict_itemiterator", "dict_reverseitemiterator", "odict_iterator", "itertools.zip_longest", "itertools.pairwise"].contains n && vs[0]? == some (rawInt _)) = true then _ else _) Q E s
           rw [if_neg (by intro h; rw [hn, Bool.false_and] at h; cases h)]
           exact wpAny_pure hQ))
noncomputable def Itl (K:PySem.W.Frag) (a:Addr):It :=
 ⟨fun i H=>∃ xs x,SqL K H a xs∧xs[i]? = some x,fun i H x H'=>H'=H∧∀ xs,SqL K H a xs→xs[i]? = some x,fun i H=>∃ xs,SqL K H a xs∧xs.length≤i⟩
noncomputable def Itt (K:PySem.W.Frag) (a:Addr):It :=
 ⟨fun i H=>∃ xs x,SqT K H a xs∧xs[i]? = some x,fun i H x H'=>H'=H∧∀ xs,SqT K H a xs→xs[i]? = some x,fun i H=>∃ xs,SqT K H a xs∧xs.length≤i⟩
noncomputable def Itr (lo:Int) (n:Nat):It:=⟨fun i _=>i < n,fun i H x H'=>H'=H∧x = .int (lo + i),fun i _=>n≤i⟩
theorem turn_list {cb:Bool} (hcb:cb=true) {P:Program} {w:World} {K:PySem.W.Frag} {tg:Expr} (a it:Addr):Turn cb P w K tg (Itl K a) [it] it (fun i h=>h.IsListIter it a i) where
 mem:=by simp
 obj:=fun i h st b hb=>by
  have e:b=it:=by simpa using hb
  subst e
  obtain ⟨o,e,c,d⟩:=st
  exact ⟨o,e,fun v z=>by rw [d] at z; cases z⟩
 keep:=fun i h h' st k=>st.at fun o e=>k it (by simp) o e
 item:=by
  intro X hP hw hK hc i pins s σ H E I hf st hg
  subst hP hw hK
  obtain ⟨xs,x,hq,hx⟩:=hg
  obtain ⟨its,rv,p,hz⟩:=I.list hq
  obtain ⟨u,hu,ru⟩:=rv.get hx
  obtain ⟨f0,f1,f2,f3,f4,f5⟩:=hf it (by simp)
  refine wpAny_pyNext_list_item st p.isList (x:=u) (by simpa using hu) fun h' st' sb=>?_
  have I1:Inv X pins σ H { s with heap:=h' }:=I.turned (t':=s.toks) (fun b o hb e=>(sb.2 b hb).trans e) f0 f1 f3 f4 f5
  obtain ⟨o,e,c,d⟩:=id st'
  exact ⟨u,rfl,go_of (s:={ s with heap:=h' }) e c d (by decide) ⟨x,H,I1,ru,⟨rfl,fun ys hy=>by rw [I.list_inj hy hq]; exact hx⟩,st',fun b hb=>(hf b hb).1⟩⟩
 done:=by
  intro X hP hw hK hc i pins s σ H E I hf st hg
  subst hP hw hK
  obtain ⟨xs,hq,hx⟩:=hg
  obtain ⟨its,rv,p,hz⟩:=I.list hq
  obtain ⟨f0,f1,f2,f3,f4,f5⟩:=hf it (by simp)
  have hl:=rv.length
  exact wpAny_pyNext_list_end (I.ok.hd (hc.trans hcb)) st p.isList (by simp; omega) fun h' eb=>⟨rfl,I.turned (t':=s.toks) (fun b o hb e=>eb b o hb e) f0 f1 f3 f4 f5⟩
 self:=fun _ _ _ _ _ st h=>wpAny_pyIter_listiter st h
theorem turn_tuple {cb:Bool} (hcb:cb=true) {P:Program} {w:World} {K:PySem.W.Frag} {tg:Expr} (a it:Addr):Turn cb P w K tg (Itt K a) [it] it (fun i h=>h.IsTupleIter it a i) where
 mem:=by simp
 obj:=fun i h st b hb=>by
  have e:b=it:=by simpa using hb
  subst e
  obtain ⟨o,e,c,d⟩:=st
  exact ⟨o,e,fun v z=>by rw [d] at z; cases z⟩
 keep:=fun i h h' st k=>st.at fun o e=>k it (by simp) o e
 item:=by
  intro X hP hw hK hc i pins s σ H E I hf st hg
  subst hP hw hK
  obtain ⟨xs,x,hq,hx⟩:=hg
  obtain ⟨its,rv,p,hz⟩:=I.tuple hq
  obtain ⟨u,hu,ru⟩:=rv.get hx
  obtain ⟨f0,f1,f2,f3,f4,f5⟩:=hf it (by simp)
  refine wpAny_pyNext_tuple_item st (show s.heap.IsTuple a its.toArray from p) (x:=u) (by simpa using hu) fun h' st' sb=>?_
  have I1:Inv X pins σ H { s with heap:=h' }:=I.turned (t':=s.toks) (fun b o hb e=>(sb.2 b hb).trans e) f0 f1 f3 f4 f5
  obtain ⟨o,e,c,d⟩:=id st'
  exact ⟨u,rfl,go_of (s:={ s with heap:=h' }) e c d (by decide) ⟨x,H,I1,ru,⟨rfl,fun ys hy=>by rw [I.tuple_inj hy hq]; exact hx⟩,st',fun b hb=>(hf b hb).1⟩⟩
 done:=by
  intro X hP hw hK hc i pins s σ H E I hf st hg
  subst hP hw hK
  obtain ⟨xs,hq,hx⟩:=hg
  obtain ⟨its,rv,p,hz⟩:=I.tuple hq
  obtain ⟨f0,f1,f2,f3,f4,f5⟩:=hf it (by simp)
  have hl:=rv.length
  exact wpAny_pyNext_tuple_end (I.ok.hd (hc.trans hcb)) st (show s.heap.IsTuple a its.toArray from p) (by simp; omega) fun h' eb=>⟨rfl,I.turned (t':=s.toks) (fun b o hb e=>eb b o hb e) f0 f1 f3 f4 f5⟩
 self:=fun _ _ _ _ _ st h=>wpAny_pyIter_tupleiter st h
theorem turn_range {cb:Bool} {P:Program} {w:World} {K:PySem.W.Frag} {tg:Expr} (it:Addr) (lo:Int) (n:Nat):Turn cb P w K tg (Itr lo n) [it] it (fun i h=>IsRangeIter h it (lo + (i:Nat) * 1) ((n:Int) - (i:Nat)) 1) where
 mem:=by simp
 obj:=fun i h st b hb=>by
  have e:b=it:=by simpa using hb
  subst e
  exact ⟨_,st,fun v z=>by
   have z':Data.fields _=Data.cell v:=z
   cases z'⟩
 keep:=fun i h h' st k=>k it (by simp) _ st
 item:=by
  intro X hP hw hK hc i pins s σ H E I hf st hg
  subst hP hw hK
  obtain ⟨f0,f1,f2,f3,f4,f5⟩:=hf it (by simp)
  refine wpAny_pyNext_range_item st (by have:i < n:=hg; omega) fun h' st' sb=>?_
  have I1:Inv X pins σ H { s with heap:=h',toks:=s.toks + 1 }:=I.turned (fun b o hb e=>(sb.2 b hb).trans e) f0 f1 f3 f4 f5
  have e1:lo + ((i + 1:Nat):Int) * 1=lo + (i:Int) * 1 + 1:=by push_cast; omega
  have e2:(n:Int) - ((i + 1:Nat):Int)=(n:Int) - (i:Int) - 1:=by push_cast; omega
  refine ⟨_,rfl,go_of (s:={ s with heap:=h',toks:=s.toks + 1 }) (n:="range_iterator") st' rfl rfl (by decide) ⟨.int (lo + i),H,I1,⟨s.toks,?_⟩,⟨rfl,rfl⟩,by rw [e1,e2]; exact st',fun b hb=>(hf b hb).1⟩⟩
  rw [Int.mul_one]
 done:=by
  intro X hP hw hK hc i pins s σ H E I hf st hg
  subst hP hw hK
  obtain ⟨f0,f1,f2,f3,f4,f5⟩:=hf it (by simp)
  exact range_endH (I.hh.hds I.hok) st (by have:n≤i:=hg; omega) fun h' eb=>⟨rfl,I.turned (t':=s.toks) (fun b o hb e=>eb b o hb e) f0 f1 f3 f4 f5⟩
 self:=fun _ _ _ _ _ st h=>wpAny_pyIter_rangeiter st h
end L2
namespace L2
open PySem PySem.Spec PyProof.Rows
section
variable {X:Cx} {tg:Expr}
theorem range_it {pins:List (Addr×Obj)} {σ:St} {H:Hp} {s:Shared} {R:It→Hp→Prop} {E:Value→Shared→Prop} {lo hi:Int} {t u v:Tok} {tk:Nat} (I:Inv X pins σ H s) (h1 : -(2 ^ 62)≤lo) (h2:lo < 2 ^ 62) (h3 : -(2 ^ 62)≤hi) (h4:hi < 2 ^ 62)
  (q:R (Itr lo (hi - lo).toNat) H):wpAny (model X.prog X.w) X.A (pyIter (.ref s.heap.objs.size)) (PIE X pins σ tg R) E { s with heap:=s.heap.push { cls:=.type "range",data:=.fields #[.int lo t,.int hi u,.int 1 v] },toks:=tk }:=by
 refine wpAny_pyIter_range (IsRange.new ..) (small_one h1 h2 h3 h4) ?_
 have I1:Inv X pins σ H { s with heap:=s.heap.push { cls:=.type "range",data:=.fields #[.int lo t,.int hi u,.int 1 v] },toks:=tk }:=I.kept fun b o e=>Heap.get?_push_of_some _ e
 refine ⟨(s.heap.push { cls:=.type "range",data:=.fields #[.int lo t,.int hi u,.int 1 v] }).objs.size,[(s.heap.push { cls:=.type "range",data:=.fields #[.int lo t,.int hi u,.int 1 v] }).objs.size],_,_,H,rfl,
  I1.kept (t':=tk) fun b o e=>Heap.get?_push_of_some _ e,turn_range _ lo (hi - lo).toNat,?_,fun b hb=>?_,q⟩
 ·have e1:lo + ((0:Nat):Int) * 1=lo:=by simp
  have e2:(((hi - lo).toNat:Nat):Int) - ((0:Nat):Int)=Builtin.Range.rangeSize lo hi 1:=by rw [rangeSize_one]; split <;> omega
  show IsRangeIter _ _ (lo + ((0:Nat):Int) * 1) ((((hi - lo).toNat:Nat):Int) - ((0:Nat):Int)) 1
  rw [e1,e2]
  exact Heap.get?_push_size _ rfl
 ·have e:b=(s.heap.push { cls:=.type "range",data:=.fields #[.int lo t,.int hi u,.int 1 v] }).objs.size:=by simpa using hb
  subst e
  exact I1.fpOk (Nat.le_refl _) (I1.hok.fresh (Nat.le_refl _))
noncomputable def iRng1 (ta:TA):TI:=fun σ H R=>ta σ H fun vs H1=>∃ j:Int,vs=[.int j]∧-(2 ^ 62)≤j∧j < 2 ^ 62∧R (Itr 0 j.toNat) H1
theorem pi_range1 {a:Expr} {ta:TA} {p pos:Pos} (hg:Gl X "range") (hm:X.mg "range" = none) (ha:PA X [a] ta) (hs:starEach [a] X.env=[(false,eval a X.env)]:=by rfl):PI X tg (.Call (.Name "range" p) [a] [] pos) (iRng1 ta):=by
 intro pins s σ H R I h
 refine Call_ (ld_blt I hg hm boot_range (PyProof.Rows.callWith_type1 (thn (ha pos pins s σ H _ I h) fun us s1 ⟨vs,H1,I1,r1,q1⟩=>?_) hs rfl))
 obtain ⟨j,e,q1,q2,q⟩:=q1
 subst e
 cases r1 with
 | cons r rr =>
  cases rr
  obtain ⟨t,rfl⟩:=r
  exact call_range_1 (range_it I1 (by omega) (by omega) q1 q2 (by simpa using q))
noncomputable def tFor (wi:TI) (g:TG) (tb:TS):TS:=fun D σ H=>wi σ H fun J H1=>∃ W:Nat→Nat→St→Hp→Prop,(∃ m,W 0 m σ H1)∧∀ i m σ H,W i m σ H →
 (J.stop i H∧D.nx σ H)∨(J.go i H∧∃ N:St→Hp→Prop,(∀ σ' H',N σ' H'→∃ m',m' < m∧W (i + 1) m' σ' H')∧∀ x H',J.yld i H x H'→g x σ H' fun σ2 H2=>tb { D with nx:=N,ct:=N,bk:=D.nx } σ2 H2)
noncomputable def pinsAt (fp:List Addr) (h:Heap):List (Addr×Obj):=fp.filterMap fun b=>(h.get? b).map fun o=>(b,o)
theorem mem_pinsAt {fp:List Addr} {h:Heap} {b:Addr} {o:Obj} (hb:b∈fp) (e:h.get? b=some o):(b,o)∈pinsAt fp h:=List.mem_filterMap.mpr ⟨b,hb,by rw [e]; rfl⟩
theorem of_pinsAt {fp:List Addr} {h:Heap} {p:Addr×Obj} (hp:p∈pinsAt fp h):p.1∈fp∧h.get? p.1=some p.2:=by
 obtain ⟨b,hb,e⟩:=List.mem_filterMap.mp hp
 cases q:h.get? b with
 | none=>rw [q] at e; cases e
 | some o =>
  rw [q] at e
  have e':(b,o)=p:=Option.some.inj e
  subst e'
  exact ⟨hb,q⟩
theorem Inv.pinned {pins:List (Addr×Obj)} {σ:St} {H:Hp} {s:Shared} {fp:List Addr} (I:Inv X pins σ H s) (hf:∀ b∈fp,FpOk X pins H b) (ho:∀ b∈fp,∃ o,s.heap.get? b=some o∧∀ v,o.data≠.cell v):Inv X (pins ++ pinsAt fp s.heap) σ H s :=
 I.pins_of fun p hp=>(List.mem_append.mp hp).elim (fun z=>I.pin p (List.mem_append_right _ z)) fun z=>by
  obtain ⟨hb,e⟩:=of_pinsAt z
  obtain ⟨f0,f1,f2,_⟩:=hf p.1 hb
  obtain ⟨o,e',d⟩:=ho p.1 hb
  rw [e] at e'; cases e'
  exact ⟨e,f0,f1,f2,d⟩
theorem Inv.unpinned {pins pl:List (Addr×Obj)} {σ:St} {H:Hp} {s:Shared} (I:Inv X (pins ++ pl) σ H s):Inv X pins σ H s:=I.pins_of fun p hp=>I.pin p (List.mem_append_right _ (List.mem_append_left _ hp))
theorem ps_for {iter:Expr} {body:List Stmt} {wi:TI} {g:TG} {tb:TS} {pos:Pos} (hp:PassesOwn (model X.prog X.w) X.A X.env X.xe) (hc:X.calm=true) (hi:PI X tg iter wi) (hg:PG X tg g) (hb:PSs X body tb)
  (hs:∀ x,foldedSetIterable iter X.env x=pure x:=by intro _; rfl):PS X (.For tg iter body [] pos) (tFor wi g tb):=by
 intro pins s σ H D I h
 refine wpAny_For (thn (hi pins s σ H _ I h) fun v s1 h1=>thn h1 fun itv s2 h2=>?_) hs
 obtain ⟨it,fp,tn,J,H2,e,I2,T,st2,f2,W,⟨m0,w0⟩,turn⟩:=h2
 subst e
 have stat:∀ {H':Hp},(∀ b∈fp,H' b=none)→∀ b∈fp,FpOk X pins H' b:=fun hn b hb=>⟨hn b hb,(f2 b hb).2⟩
 refine codeAny_forLoop_any (fun n s'=>∃ i σ' H',Inv X pins σ' H' s'∧tn i s'.heap∧(∀ b∈fp,H' b=none)∧W i n σ' H') ?_ m0 ⟨0,σ,H2,I2,st2,fun b hb=>(f2 b hb).1,w0⟩
 rintro n s3 ⟨i,σ3,H3,I3,st3,fr3,w3⟩
 rcases turn i n σ3 H3 w3 with ⟨stop,qn⟩ | ⟨go,N,hN,step⟩
 ·refine wpAny_passesOwn hp (thn (T.done X rfl rfl rfl rfl i pins s3 σ3 H3 X.xe I3 (stat fr3) st3 stop) fun r s4 ⟨hr,I4⟩=>?_)
  subst hr
  exact wpAny_execs_nil ⟨σ3,H3,I4,qn⟩
 ·refine wpAny_passesOwn hp (thn (T.item X rfl rfl rfl rfl i pins s3 σ3 H3 X.xe I3 (stat fr3) st3 go) fun r s4 ⟨u,hr,h4⟩=>?_)
  subst hr
  refine wpAny_passesOwn hp (thn h4 fun _ s5 ⟨x,H5,I5,r5,y5,st5,fr5⟩=>?_)
  have I5':=I5.pinned (stat fr5) (T.obj _ _ st5)
  refine wpAny_passesOwn hp (thn (hg _ s5 σ3 H5 x u _ I5' r5 (step x H5 y5)) fun _ s6 ⟨σ6,H6,I6,q6⟩=>?_)
  refine wpAny_passesOwn hp (thn (hb _ s6 σ6 H6 _ I6 q6) fun f s7 q7=>?_)
  have again:∀ {σ7:St} {H7:Hp},Inv X (pins ++ pinsAt fp s5.heap) σ7 H7 s7→N σ7 H7→∃ m,m < n∧∃ i σ' H',Inv X pins σ' H' s7∧tn i s7.heap∧(∀ b∈fp,H' b=none)∧W i m σ' H':=fun {σ7 H7} I7 n7=>by
   obtain ⟨m',hm,w7⟩:=hN σ7 H7 n7
   refine ⟨m',hm,i + 1,σ7,H7,I7.unpinned,T.keep _ _ _ st5 fun b hb o e=>(I7.pin (b,o) (List.mem_append_right _ (List.mem_append_right _ (mem_pinsAt hb e)))).1,fun b hb=>?_,w7⟩
   obtain ⟨o,e,d⟩:=T.obj _ _ st5 b hb
   exact (I7.pin (b,o) (List.mem_append_right _ (List.mem_append_right _ (mem_pinsAt hb e)))).2.1
  cases f with
  | next=>obtain ⟨σ7,H7,I7,n7⟩:=q7; exact again I7 n7
  | cont=>obtain ⟨σ7,H7,I7,n7⟩:=q7; exact again I7 n7
  | brk=>obtain ⟨σ7,H7,I7,q7⟩:=q7; exact ⟨σ7,H7,I7.unpinned,q7⟩
  | ret v=>obtain ⟨x7,σ7,H7,I7,r7,q7⟩:=q7; exact ⟨x7,σ7,H7,I7.unpinned,r7,q7⟩
end
end L2
namespace L2
open PySem PySem.Spec PyProof.Rows
noncomputable abbrev R2:=V→V→Hp→VK→Prop
noncomputable def OpR (X:Cx) (f:Value→Value→Sem Value) (r:R2):Prop :=
 ∀ (pins:List (Addr×Obj)) (s:Shared) (σ:St) (H:Hp) (x y:V) (v u:Value) (Q:VK),Inv X pins σ H s→RelV x v→RelV y u→r x y H Q →
  wpAny (model X.prog X.w) X.A (f v u) (EP X pins σ Q) X.xe s
noncomputable def UnR (X:Cx) (f:Value→Sem Value) (r:V→Hp→VK→Prop):Prop :=
 ∀ (pins:List (Addr×Obj)) (s:Shared) (σ:St) (H:Hp) (x:V) (v:Value) (Q:VK),Inv X pins σ H s→RelV x v→r x H Q →
  wpAny (model X.prog X.w) X.A (f v) (EP X pins σ Q) X.xe s
noncomputable def CallR (X:Cx) (f:Value) (r:List V→Hp→VK→Prop):Prop :=
 ∀ (pins:List (Addr×Obj)) (s:Shared) (σ:St) (H:Hp) (xs:List V) (us:List Value) (Q:VK),Inv X pins σ H s→Vals xs us→r xs H Q →
  wpAny (model X.prog X.w) X.A (call f us) (EP X pins σ Q) X.xe s
noncomputable def TruR (X:Cx) (r:V→Hp→(Bool→Hp→Prop)→Prop):Prop :=
 ∀ (pins:List (Addr×Obj)) (s:Shared) (σ:St) (H:Hp) (x:V) (v:Value) (Q:Bool→Hp→Prop),Inv X pins σ H s→RelV x v→r x H Q →
  wpAny (model X.prog X.w) X.A (truthy v) (TP X pins σ Q) X.xe s
noncomputable def tOp (r:R2) (ta tb:TE):TE:=fun σ H Q=>ta σ H fun x H1=>tb σ H1 fun y H2=>r x y H2 Q
noncomputable def tUn (r:V→Hp→VK→Prop) (ta:TE):TE:=fun σ H Q=>ta σ H fun x H1=>r x H1 Q
noncomputable def rI (C:Int→Int→Prop) (g:Int→Int→V):R2:=fun x y H Q=>∃ i j,x = .int i∧y = .int j∧C i j∧Q (g i j) H
noncomputable def rI0 (g:Int→Int→V):R2:=fun x y H Q=>∃ i j,x = .int i∧y = .int j∧Q (g i j) H
noncomputable def rU (g:Int→V):V→Hp→VK→Prop:=fun x H Q=>∃ i,x = .int i∧Q (g i) H
section
variable {X:Cx} {a b c:Expr} {ta tb tc:TE} {pos:Pos}
theorem binT (ha:PE X a ta) (hb:PE X b tb) {pins:List (Addr×Obj)} {s:Shared} {σ:St} {H:Hp} {R:V→V→Hp→Prop} (I:Inv X pins σ H s)
  (h:ta σ H fun x H1=>tb σ H1 fun y H2=>R x y H2) {Q:Value→Shared→Prop} {f:Value→Value→Sem Value}
  (hf:∀ v u s2 x y H2,Inv X pins σ H2 s2→RelV x v→RelV y u→R x y H2→wpAny (model X.prog X.w) X.A (f v u) Q X.xe s2) :
  wpAny (model X.prog X.w) X.A (eval a X.env) (fun v s₁=>wpAny (model X.prog X.w) X.A (eval b X.env) (fun u s₂=>wpAny (model X.prog X.w) X.A (f v u) Q X.xe s₂) X.xe s₁) X.xe s:=by
 refine thn (ha pins s σ H _ I h) fun v s1 ⟨x,H1,I1,r1,q1⟩=>?_
 refine thn (hb pins s1 σ H1 _ I1 q1) fun u s2 ⟨y,H2,I2,r2,q2⟩=>?_
 exact hf v u s2 x y H2 I2 r1 r2 q2
theorem pe_op {op:Operator} {r:R2} (ho:OpR X (binaryOp op) r) (ha:PE X a ta) (hb:PE X b tb):PE X (.BinOp a op b pos) (tOp r ta tb):=by
 intro pins s σ H Q I h
 exact wpAny_BinOp (binT ha hb I h fun v u s2 x y H2 I2 rx ry q=>ho pins s2 σ H2 x y v u Q I2 rx ry q)
theorem pe_un {op:UnaryOp} {r:V→Hp→VK→Prop} (ho:UnR X (unaryOp op) r) (ha:PE X a ta):PE X (.UnaryOp op a pos) (tUn r ta):=by
 intro pins s σ H Q I h
 exact UnaryOp_ (thn (ha pins s σ H _ I h) fun v s1 ⟨x,H1,I1,r1,q1⟩=>ho pins s1 σ H1 x v Q I1 r1 q1)
theorem opI {f:Value→Value→Sem Value} {C:Int→Int→Prop} {g:Int→Int→Int}
  (rule:∀ (i j:Int) (t u:Tok) (s:Shared) (Q:Value→Shared→Prop) (E:Value→Shared→Prop),C i j→Q (.int (g i j) s.toks) { s with toks:=s.toks + 1 }→wpAny (model X.prog X.w) X.A (f (.int i t) (.int j u)) Q E s) :
  OpR X f (rI C fun i j=>.int (g i j)):=by
 intro pins s σ H x y v u Q I rx ry h
 obtain ⟨i,j,rfl,rfl,hc,q⟩:=h
 obtain ⟨t,rfl⟩:=rx
 obtain ⟨t',rfl⟩:=ry
 exact rule i j t t' s _ _ hc ⟨.int (g i j),H,I.tok _,⟨_,rfl⟩,q⟩
theorem opI0 {f:Value→Value→Sem Value} {g:Int→Int→Int}
  (rule:∀ (i j:Int) (t u:Tok) (s:Shared) (Q:Value→Shared→Prop) (E:Value→Shared→Prop),Q (.int (g i j) s.toks) { s with toks:=s.toks + 1 }→wpAny (model X.prog X.w) X.A (f (.int i t) (.int j u)) Q E s) :
  OpR X f (rI0 fun i j=>.int (g i j)):=by
 intro pins s σ H x y v u Q I rx ry h
 obtain ⟨i,j,rfl,rfl,q⟩:=h
 obtain ⟨t,rfl⟩:=rx
 obtain ⟨t',rfl⟩:=ry
 exact rule i j t t' s _ _ ⟨.int (g i j),H,I.tok _,⟨_,rfl⟩,q⟩
theorem opB0 {f:Value→Value→Sem Value} {g:Int→Int→Bool}
  (rule:∀ (i j:Int) (t u:Tok) (s:Shared) (Q:Value→Shared→Prop) (E:Value→Shared→Prop),Q (.bool (g i j)) s→wpAny (model X.prog X.w) X.A (f (.int i t) (.int j u)) Q E s) :
  OpR X f (rI0 fun i j=>.bl (g i j)):=by
 intro pins s σ H x y v u Q I rx ry h
 obtain ⟨i,j,rfl,rfl,q⟩:=h
 obtain ⟨t,rfl⟩:=rx
 obtain ⟨t',rfl⟩:=ry
 exact rule i j t t' s _ _ ⟨.bl (g i j),H,I,rfl,q⟩
noncomputable def CPow (i j:Int):Prop:=0≤j∧j≤1000000∧i.natAbs < 2 ^ 64
noncomputable def CMul (i j:Int):Prop:=(-(2 ^ 64) < i∧i < 2 ^ 64)∨(-(2 ^ 64) < j∧j < 2 ^ 64)
theorem CMul.ok {i j:Int} (h:CMul i j):IntMulOk i j:=by
 rcases h with ⟨h1,h2⟩ | ⟨h1,h2⟩
 ·exact .of_left (intBits_le_64 h1 h2)
 ·exact .of_right (intBits_le_64 h1 h2)
theorem op_add:OpR X (binaryOp .Add) (rI0 fun i j=>.int (i + j)):=opI0 fun _ _ _ _ _ _ _ q=>add_int q
theorem op_sub:OpR X (binaryOp .Sub) (rI0 fun i j=>.int (i - j)):=opI0 fun _ _ _ _ _ _ _ q=>sub_int q
theorem op_mul:OpR X (binaryOp .Mult) (rI CMul fun i j=>.int (i * j)):=opI fun _ _ _ _ _ _ _ hc q=>mul_int q hc.ok
theorem op_mod:OpR X (binaryOp .Mod) (rI (fun _ j=>0 < j) fun i j=>.int (i % j)):=opI fun i j _ _ _ _ _ hc q=>by
 have h1:(0:Int) < j:=hc
 exact mod_int' (by omega) (by rw [Int.fmod_eq_emod_of_nonneg i (by omega)]; exact q)
theorem op_pow:OpR X (binaryOp .Pow) (rI CPow fun i j=>.int (i ^ j.toNat)):=opI fun _ _ _ _ _ _ _ hc q=>pow_int_small hc.1 hc.2.1 hc.2.2 q
theorem unI {f:Value→Sem Value} {g:Int→Int}
  (rule:∀ (i:Int) (t:Tok) (s:Shared) (Q:Value→Shared→Prop) (E:Value→Shared→Prop),Q (.int (g i) s.toks) { s with toks:=s.toks + 1 }→wpAny (model X.prog X.w) X.A (f (.int i t)) Q E s) :
  UnR X f (rU fun i=>.int (g i)):=by
 intro pins s σ H x v Q I rx h
 obtain ⟨i,rfl,q⟩:=h
 obtain ⟨t,rfl⟩:=rx
 exact rule i t s _ _ ⟨.int (g i),H,I.tok _,⟨_,rfl⟩,q⟩
theorem un_neg:UnR X (unaryOp .USub) (rU fun i=>.int (-i)):=unI fun _ _ _ _ _ q=>neg_int q
end
section
variable {X:Cx} {a b c:Expr} {ta tb tc:TE} {pos:Pos}
theorem fin_bl {pins:List (Addr×Obj)} {σ:St} {H:Hp} {s:Shared} {Q:VK} {k k':Bool} (I:Inv X pins σ H s) (q:Q (.bl k) H) (e:k=k'):EP X pins σ Q (.bool k') s:=by
 subst e
 exact ⟨.bl k,H,I,rfl,q⟩
theorem op_lt:OpR X (compareOp .Lt) (rI0 fun i j=>.bl (decide (i < j))):=opB0 fun _ _ _ _ _ _ _ q=>lt_int q
theorem op_le:OpR X (compareOp .LtE) (rI0 fun i j=>.bl (decide (i≤j))):=opB0 fun _ _ _ _ _ _ _ q=>le_int q
theorem op_gt:OpR X (compareOp .Gt) (rI0 fun i j=>.bl (decide (j < i))):=opB0 fun _ _ _ _ _ _ _ q=>gt_int q
theorem op_ge:OpR X (compareOp .GtE) (rI0 fun i j=>.bl (decide (j≤i))):=opB0 fun _ _ _ _ _ _ _ q=>ge_int q
theorem op_lt_str:OpR X (compareOp .Lt) (fun x y H Q=>∃ i j,x = .str i∧y = .str j∧Q (.bl (decide (i.cps.toList < j.cps.toList))) H):=by
 intro pins s σ H x y v u Q I rx ry h
 obtain ⟨i,j,rfl,rfl,q⟩:=h
 obtain ⟨t,rfl⟩:=rx
 obtain ⟨t',rfl⟩:=ry
 exact lt_str (fin_bl I q rfl)
theorem op_in_str:OpR X (compareOp .In) (fun x y H Q=>∃ i j,x = .str i∧y = .str j∧Q (.bl (!(Builtin.Str.occurrences j i 0 j.length 1).isEmpty)) H):=by
 intro pins s σ H x y v u Q I rx ry h
 obtain ⟨i,j,rfl,rfl,q⟩:=h
 obtain ⟨t,rfl⟩:=rx
 obtain ⟨t',rfl⟩:=ry
 exact in_str (fin_bl I q rfl)
theorem op_isN:OpR X (compareOp .Is) (fun x y H Q=>y = .non∧Q (.bl (decide (x = .non))) H):=by
 intro pins s σ H x y v u Q I rx ry h
 obtain ⟨rfl,q⟩:=h
 cases ry
 refine is_none_gen (fin_bl I q ?_)
 cases x <;> first
  | (cases rx; rfl)
  | (obtain ⟨t,rfl⟩:=rx; rfl)
theorem op_notN:OpR X (compareOp .IsNot) (fun x y H Q=>y = .non∧Q (.bl (!decide (x = .non))) H):=by
 intro pins s σ H x y v u Q I rx ry h
 obtain ⟨rfl,q⟩:=h
 cases ry
 refine isnot_none_gen (fin_bl I q ?_)
 cases x <;> first
  | (cases rx; rfl)
  | (obtain ⟨t,rfl⟩:=rx; rfl)
theorem op_notin_str:OpR X (compareOp .NotIn) (fun x y H Q=>∃ i j,x = .str i∧y = .str j∧Q (.bl (!(!(Builtin.Str.occurrences j i 0 j.length 1).isEmpty))) H):=by
 intro pins s σ H x y v u Q I rx ry h
 obtain ⟨i,j,rfl,rfl,q⟩:=h
 obtain ⟨t,rfl⟩:=rx
 obtain ⟨t',rfl⟩:=ry
 exact notIn_str (fin_bl I q rfl)
theorem OpR.or {f:Value→Value→Sem Value} {r r':R2} (h:OpR X f r) (h':OpR X f r'):OpR X f (fun x y H Q=>r x y H Q∨r' x y H Q):=by
 intro pins s σ H x y v u Q I rx ry q
 rcases q with q | q
 ·exact h pins s σ H x y v u Q I rx ry q
 ·exact h' pins s σ H x y v u Q I rx ry q
theorem nomark (b:Expr) {op:CmpOp} (h:op≠.In:=by decide) (h2:op≠.NotIn:=by decide):behindInMarks op b=false:=by
 have e1:(op == CmpOp.In)=false:=by cases op <;> first | rfl | exact absurd rfl h
 have e2:(op == CmpOp.NotIn)=false:=by cases op <;> first | rfl | exact absurd rfl h2
 cases b <;> simp [behindInMarks,e1,e2]
theorem pe_cmpR {op:CmpOp} {r:R2} (ho:OpR X (compareOp op) r) (ha:PE X a ta) (hb:PE X b tb) (hm:behindInMarks op b=false):PE X (.Compare a [op] [b] pos) (tOp r ta tb):=by
 intro pins s σ H Q I h
 exact wpAny_Compare1 (binT ha hb I h fun v u s2 x y H2 I2 rx ry q=>ho pins s2 σ H2 x y v u Q I2 rx ry q) hm
noncomputable def tTest (t:TE):TT:=fun σ H Q=>t σ H fun x H'=>∃ k,x = .bl k∧Q k H'
theorem pt_cmpR {op:CmpOp} {r:R2} (ho:OpR X (compareOp op) r) (ha:PE X a ta) (hb:PE X b tb) (hm:behindInMarks op b=false):PT X (.Compare a [op] [b] pos) (tTest (tOp r ta tb)):=by
 intro pins s σ H Q I h
 refine wpAny_isTrue_Compare1 (thn (ha pins s σ H _ I h) fun v s1 ⟨x,H1,I1,r1,q1⟩=>thn (hb pins s1 σ H1 _ I1 q1) fun u s2 ⟨y,H2,I2,r2,q2⟩ =>
  thn (ho pins s2 σ H2 x y v u _ I2 r1 r2 q2) fun c s3 ⟨z,H3,I3,r3,k,e,q3⟩=>?_) hm
 subst e
 cases r3
 exact wpAny_truthy_bool ⟨H3,I3,q3⟩
noncomputable def tChain (r r':R2) (ta tb tc:TE):TE:=fun σ H Q=>ta σ H fun x H1=>tb σ H1 fun y H2=>r x y H2 fun z H3=>∃ k,z = .bl k ∧
 (if k=true then tc σ H3 fun w' H4=>r' y w' H4 Q else Q (.bl false) H3)
theorem pe_chain {op op':CmpOp} {r r':R2} (ho:OpR X (compareOp op) r) (ho':OpR X (compareOp op') r') (ha:PE X a ta) (hb:PE X b tb) (hc:PE X c tc)
  (hm:lastMarks [op,op'] [b,c]=false:=by with_unfolding_all rfl):PE X (.Compare a [op,op'] [b,c] pos) (tChain r r' ta tb tc):=by
 intro pins s σ H Q I h
 refine Compare_chain (thn (ha pins s σ H _ I h) fun v s1 ⟨x,H1,I1,r1,q1⟩=>chain_link (thn (hb pins s1 σ H1 _ I1 q1) fun u s2 ⟨y,H2,I2,r2,q2⟩ =>
  thn (ho pins s2 σ H2 x y v u _ I2 r1 r2 q2) fun d s3 ⟨z,H3,I3,r3,k,e,q3⟩=>?_)) hm
 subst e
 cases r3
 refine wpAny_truthy_bool ?_
 cases k with
 | false=>exact ite_ff ⟨.bl false,H3,I3,rfl,q3⟩
 | true=>exact ite_tt (chain_last (thn (hc pins s3 σ H3 _ I3 q3) fun w' s4 ⟨z',H4,I4,r4,q4⟩=>ho' pins s4 σ H4 y z' u w' Q I4 r2 r4 q4))
theorem pt_chain {op op':CmpOp} {r r':R2} (ho:OpR X (compareOp op) r) (ho':OpR X (compareOp op') r') (ha:PE X a ta) (hb:PE X b tb) (hc:PE X c tc)
  (hm:lastMarks [op,op'] [b,c]=false:=by with_unfolding_all rfl):PT X (.Compare a [op,op'] [b,c] pos) (tTest (tChain r r' ta tb tc)):=by
 intro pins s σ H Q I h
 refine isTrue_chain (thn (ha pins s σ H _ I h) fun v s1 ⟨x,H1,I1,r1,q1⟩=>test_link (thn (hb pins s1 σ H1 _ I1 q1) fun u s2 ⟨y,H2,I2,r2,q2⟩ =>
  thn (ho pins s2 σ H2 x y v u _ I2 r1 r2 q2) fun d s3 ⟨z,H3,I3,r3,k,e,q3⟩=>?_)) hm
 subst e
 cases r3
 refine wpAny_truthy_bool ?_
 cases k with
 | false =>
  obtain ⟨k',e',q'⟩:=q3
  cases e'
  exact ite_ff ⟨H3,I3,q'⟩
 | true =>
  refine ite_tt (test_last (thn (hc pins s3 σ H3 _ I3 q3) fun w' s4 ⟨z',H4,I4,r4,q4⟩=>thn (ho' pins s4 σ H4 y z' u w' _ I4 r2 r4 q4) fun d' s5 ⟨z2,H5,I5,r5,k2,e2,q5⟩=>?_))
  subst e2
  cases r5
  exact wpAny_truthy_bool ⟨H5,I5,q5⟩
noncomputable def TruV (K:PySem.W.Frag) (x:V) (H:Hp) (k:Bool):Prop :=
 match x with
 | .non=>k=false
 | .bl b=>k=b
 | .int i=>k=(i != 0)
 | .str y=>y.length≤sizeLine∧k=((y.length:Int) != 0)
 | .byt y=>y.size≤sizeLine∧k=((y.size:Int) != 0)
 | .ref p=>(∃ xs,SqL K H p xs∧k = !xs.isEmpty)∨(∃ xs,SqT K H p xs∧k = !xs.isEmpty)∨∃ kvs,H p=some (.dK kvs)∧k = !kvs.isEmpty
 | _=>False
theorem isEmpty_kv {κ:Type} {kvs:List (κ×V)} {vs:List (κ×Value)} (r:KV kvs vs):(!vs.isEmpty) = !kvs.isEmpty:=by
 cases r <;> rfl
theorem isEmpty_of {xs:List V} {its:List Value} (r:Vals xs its):(!its.toArray.isEmpty) = !xs.isEmpty:=by
 cases r <;> simp
theorem line63:(sizeLine:Nat) < 2 ^ 63:=by rw [sizeLine_eq]; decide
theorem tru_ok:TruR X (fun x H Q=>∃ k,TruV X.K x H k∧Q k H):=by
 intro pins s σ H x v Q I rx h
 obtain ⟨k,e,q⟩:=h
 have hl:=line63
 have hs:sizeLine=16777216:=sizeLine_eq
 cases x with
 | non =>
  cases rx
  have e':k=false:=e
  subst e'
  exact truthy_none ⟨H,I,q⟩
 | bl b =>
  cases rx
  have e':k=b:=e
  subst e'
  exact wpAny_truthy_bool ⟨H,I,q⟩
 | int i =>
  obtain ⟨t,rfl⟩:=rx
  have e':k=(i != 0):=e
  subst e'
  exact PySem.P.truthy_int ⟨H,I,q⟩
 | str y =>
  obtain ⟨t,rfl⟩:=rx
  obtain ⟨hy,e'⟩:y.length≤sizeLine∧k=((y.length:Int) != 0):=e
  subst e'
  exact PySem.P.truthy_str (by omega) ⟨H,I.tok _,q⟩
 | byt y =>
  obtain ⟨t,rfl⟩:=rx
  obtain ⟨hy,e'⟩:y.size≤sizeLine∧k=((y.size:Int) != 0):=e
  subst e'
  exact PySem.W.truthy_bytes (by omega) ⟨H,I.tok _,q⟩
 | ref p =>
  cases rx
  have e':(∃ xs,SqL X.K H p xs∧k = !xs.isEmpty)∨(∃ xs,SqT X.K H p xs∧k = !xs.isEmpty)∨∃ kvs,H p=some (.dK kvs)∧k = !kvs.isEmpty:=e
  rcases e' with ⟨xs,hx,e'⟩ | ⟨xs,hx,e'⟩ | ⟨kvs,hx,e'⟩
  ·subst e'
   obtain ⟨its,r,pl,hz⟩:=I.list hx
   have hlen:=r.length
   exact wpAny_truthy_list pl.isList (by simp only [List.size_toArray]; omega) ⟨H,I.tok _,by rw [isEmpty_of r]; exact q⟩
  ·subst e'
   obtain ⟨its,r,pl,hz⟩:=I.tuple hx
   have hlen:=r.length
   exact truthy_tuple pl (by simp only [List.size_toArray]; omega) ⟨H,I.tok _,by rw [isEmpty_of r]; exact q⟩
  ·subst e'
   obtain ⟨hz,hS,vs,r,m⟩:kvs.length≤sizeLine∧(p == sysModules)=false∧∃ vs,KV kvs vs∧s.heap.DictOf (mixKind X.prog X.w) p vs:=I.hok p _ hx
   have hlen:kvs.length=vs.length:=Paired.length r
   exact wpAny_truthy_dict hS m (by omega) ⟨H,I.tok _,by rw [isEmpty_kv r]; exact q⟩
 | _=>exact (show False from e).elim
theorem pt_truth (ha:PE X a ta) (he:∀ whole,isTrue a X.env whole=(do let v ← whole; standAt a.pos; holding [v] (truthy v))) :
  PT X a (fun σ H Q=>ta σ H fun x H'=>∃ k,TruV X.K x H' k∧Q k H'):=by
 intro pins s σ H Q I h
 exact isTrue_plain (thn (ha pins s σ H _ I h) fun v s1 ⟨x,H1,I1,r1,q1⟩=>tru_ok pins s1 σ H1 x v Q I1 r1 q1) (he _)
theorem op_add_str:OpR X (binaryOp .Add) (fun x y H Q=>∃ i j,x = .str i∧y = .str j∧i.length + j.length≤sizeLine∧Q (.str (i ++ j)) H):=by
 intro pins s σ H x y v u Q I rx ry h
 obtain ⟨i,j,rfl,rfl,hz,q⟩:=h
 obtain ⟨t,rfl⟩:=rx
 obtain ⟨t',rfl⟩:=ry
 exact add_str (fun t' tk=>⟨.str (i ++ j),H,I.tok _,⟨_,rfl⟩,q⟩) hz
theorem vals1 {x:V} {us:List Value} (r:Vals [x] us):∃ u,us=[u]∧RelV x u:=by
 cases r with
 | cons r1 r2=>cases r2; exact ⟨_,rfl,r1⟩
theorem vals2 {x y:V} {us:List Value} (r:Vals [x,y] us):∃ u w',us=[u,w']∧RelV x u∧RelV y w':=by
 cases r with
 | cons r1 r2 =>
  cases r2 with
  | cons r3 r4=>cases r4; exact ⟨_,_,rfl,r1,r3⟩
theorem call_abs:CallR X (.builtin "abs") (fun xs H Q=>∃ i,xs=[.int i]∧Q (.int (if i < 0 then -i else i)) H):=by
 intro pins s σ H xs us Q I r h
 obtain ⟨i,rfl,q⟩:=h
 obtain ⟨u,rfl,t,rfl⟩:=vals1 r
 exact call_abs_int fun u tk=>⟨.int (if i < 0 then -i else i),H,I.tok _,⟨_,rfl⟩,q⟩
theorem call_max2 (hc:X.calm=true):CallR X (.builtin "max") (fun xs H Q=>∃ i j,xs=[.int i,.int j]∧Q (.int (if j > i then j else i)) H):=by
 intro pins s σ H xs us Q I r h
 obtain ⟨i,j,rfl,q⟩:=h
 obtain ⟨u,w',rfl,⟨t,rfl⟩,⟨t',rfl⟩⟩:=vals2 r
 refine max_two_ints (I.ok.hd hc) fun h' tk k=>⟨_,H,I.kept k,?_,q⟩
 by_cases hj:j > i
 ·rw [if_pos hj,if_pos hj]; exact ⟨_,rfl⟩
 ·rw [if_neg hj,if_neg hj]; exact ⟨_,rfl⟩
theorem call_min2 (hc:X.calm=true):CallR X (.builtin "min") (fun xs H Q=>∃ i j,xs=[.int i,.int j]∧Q (.int (if j < i then j else i)) H):=by
 intro pins s σ H xs us Q I r h
 obtain ⟨i,j,rfl,q⟩:=h
 obtain ⟨u,w',rfl,⟨t,rfl⟩,⟨t',rfl⟩⟩:=vals2 r
 refine min_two_ints (I.ok.hd hc) fun h' tk k=>⟨_,H,I.kept k,?_,q⟩
 by_cases hj:j < i
 ·rw [if_pos hj,if_pos hj]; exact ⟨_,rfl⟩
 ·rw [if_neg hj,if_neg hj]; exact ⟨_,rfl⟩
theorem call_int1:CallR X (.type "int") (fun xs H Q=>(∃ i,xs=[.int i]∧Q (.int i) H)∨∃ k,xs=[.bl k]∧Q (.int (if k then 1 else 0)) H):=by
 intro pins s σ H xs us Q I r h
 rcases h with ⟨i,rfl,q⟩ | ⟨k,rfl,q⟩
 ·obtain ⟨u,rfl,t,rfl⟩:=vals1 r
  exact call_int_int ⟨.int i,H,I,⟨_,rfl⟩,q⟩
 ·obtain ⟨u,rfl,r1⟩:=vals1 r
  cases r1
  exact call_int_bool ⟨.int (if k then 1 else 0),H,I.tok _,⟨_,rfl⟩,q⟩
theorem call_str_int:CallR X (.type "str") (fun xs H Q=>∃ i,xs=[.int i]∧i.natAbs.log2 < 1920∧Q (.str (toString i)) H):=by
 intro pins s σ H xs us Q I r h
 obtain ⟨i,rfl,hz,q⟩:=h
 obtain ⟨u,rfl,t,rfl⟩:=vals1 r
 exact PySem.P.str_of_int hz ⟨.str _,H,I.tok _,⟨_,rfl⟩,q⟩
noncomputable def LenV (K:PySem.W.Frag) (x:V) (H:Hp) (n:Nat):Prop :=
 match x with
 | .str y=>y.length≤sizeLine∧n=y.length
 | .byt y=>y.size≤sizeLine∧n=y.size
 | .ref p=>(∃ xs,SqL K H p xs∧n=xs.length)∨∃ xs,SqT K H p xs∧n=xs.length
 | _=>False
theorem call_len:CallR X (.builtin "len") (fun xs H Q=>∃ x n,xs=[x]∧LenV X.K x H n∧Q (.int n) H):=by
 intro pins s σ H xs us Q I r h
 obtain ⟨x,n,rfl,e,q⟩:=h
 obtain ⟨u,rfl,rx⟩:=vals1 r
 have hl:=line63
 have hs:sizeLine=16777216:=sizeLine_eq
 cases x with
 | str y =>
  obtain ⟨t,rfl⟩:=rx
  obtain ⟨hy,e'⟩:y.length≤sizeLine∧n=y.length:=e
  subst e'
  exact len_str (by omega) ⟨.int _,H,I.tok _,⟨_,rfl⟩,q⟩
 | byt y =>
  obtain ⟨t,rfl⟩:=rx
  obtain ⟨hy,e'⟩:y.size≤sizeLine∧n=y.size:=e
  subst e'
  exact PySem.W.len_bytes (by omega) ⟨.int _,H,I.tok _,⟨_,rfl⟩,q⟩
 | ref p =>
  cases rx
  have e':(∃ xs,SqL X.K H p xs∧n=xs.length)∨∃ xs,SqT X.K H p xs∧n=xs.length:=e
  rcases e' with ⟨xs,hx,e'⟩ | ⟨xs,hx,e'⟩
  ·subst e'
   obtain ⟨its,r',pl,hz⟩:=I.list hx
   have hlen:=r'.length
   exact Calls.call_len_list pl.isList (by simp only [List.size_toArray]; omega) ⟨.int xs.length,H,I.tok _,⟨_,by simp only [List.size_toArray]; rw [hlen]⟩,q⟩
  ·subst e'
   obtain ⟨its,r',pl,hz⟩:=I.tuple hx
   have hlen:=r'.length
   exact len_tuple pl (by simp only [List.size_toArray]; omega) ⟨.int xs.length,H,I.tok _,⟨_,by simp only [List.size_toArray]; rw [hlen]⟩,q⟩
 | _=>exact (show False from e).elim
end
end L2
namespace L2
open PySem PySem.Spec PyProof.Rows
structure ObjM (h:Heap) (x dx C:Addr) (mA:Str→Option Value):Prop where
 obj:h.get? x=some (PySem.W.instObj C dx)
 ns:h.Ns1 dx mA
 ne:dx≠x
theorem lookIn_ns {h:Heap} {dx:Addr} {mA:Str→Option Value} (n:h.Ns1 dx mA):∃ od,h.get? dx=some od∧∀ name,PySem.W.lookIn name od=some (mA name):=by
 obtain ⟨o,es,ep,ho,hd,hk,_,hm⟩:=n
 refine ⟨o,ho,fun name=>?_⟩
 have e:=hm name
 unfold nsFind findBy at e
 rw [← Array.find?_toList] at e
 unfold PySem.W.lookIn
 rw [hd]
 dsimp only
 split
 ·rename_i y q
  rw [q] at e
  exact congrArg some e
 ·rename_i q
  rw [q] at e
  have a:es.toList.any (·.refKey)=false:=by
   rw [List.any_eq_false]
   intro y hy
   obtain ⟨z,t,hkey⟩:=hk y (Array.mem_toList_iff.mp hy)
   simp [DictEntry.refKey,hkey]
  have a':¬ es.toList.any (·.refKey)=true:=by rw [a]; exact Bool.false_ne_true
  rw [if_neg a']
  exact congrArg some e
theorem ObjM.look {h:Heap} {x dx C:Addr} {mA:Str→Option Value} (I:ObjM h x dx C mA):∃ od,PySem.W.InstAt h x (PySem.W.instObj C dx) C (some od)∧∀ name,PySem.W.lookIn name od=some (mA name) :=
 let ⟨od,ho,hl⟩:=lookIn_ns I.ns
 ⟨od,⟨I.obj,rfl,rfl,ho⟩,hl⟩
section
variable {prog:Program} {w:World} {A:Around} {E:Value→Shared→Prop} {s:Shared} {K:PySem.W.Frag} {x dx C f:Addr} {mA:Str→Option Value} {name:Str} {v:Value}
end
noncomputable def putF (f:Str) (v:V):List (Str×V)→List (Str×V)
 | []=>[(f,v)]
 | (g,x) :: r=>if g=f then (g,v) :: r else (g,x) :: putF f v r
theorem lookup_putF (f g:Str) (v:V):∀ fs:List (Str×V),(putF f v fs).lookup g=if g=f then some v else fs.lookup g
 | []=>by
  show List.lookup g [(f,v)]=_
  by_cases h:g=f
  ·have hb:(g == f)=true:=beq_iff_eq.mpr h
   simp only [List.lookup,hb,if_pos h]
  ·have hb:(g == f)=false:=beq_eq_false_iff_ne.mpr h
   simp only [List.lookup,hb,if_neg h]
 | (k,x) :: r=>by
  have ih:=lookup_putF f g v r
  rw [show putF f v ((k,x) :: r)=(if k=f then (k,v) :: r else (k,x) :: putF f v r) from rfl]
  by_cases hk:k=f
  ·rw [if_pos hk]
   by_cases h:g=k
   ·have hb:(g == k)=true:=beq_iff_eq.mpr h
    simp only [List.lookup,hb,if_pos (h.trans hk)]
   ·have hb:(g == k)=false:=beq_eq_false_iff_ne.mpr h
    simp only [List.lookup,hb,if_neg (fun e:g=f=>h (e.trans hk.symm))]
  ·rw [if_neg hk]
   by_cases h:g=k
   ·have hb:(g == k)=true:=beq_iff_eq.mpr h
    simp only [List.lookup,hb,if_neg (fun e:g=f=>hk (h.symm.trans e))]
   ·have hb:(g == k)=false:=beq_eq_false_iff_ne.mpr h
    simp only [List.lookup,hb]
    exact ih
theorem keys_putF (f:Str) (v:V):∀ fs:List (Str×V),f∈(putF f v fs).map (·.1)∧∀ g,g∈fs.map (·.1)→g∈(putF f v fs).map (·.1)
 | []=>⟨by simp [putF],fun g h=>by simp at h⟩
 | (k,x) :: r=>by
  obtain ⟨i1,i2⟩:=keys_putF f v r
  rw [show putF f v ((k,x) :: r)=(if k=f then (k,v) :: r else (k,x) :: putF f v r) from rfl]
  by_cases hk:k=f
  ·rw [if_pos hk]
   subst hk
   exact ⟨by simp,fun g h=>by simpa using h⟩
  ·rw [if_neg hk]
   refine ⟨?_,fun g h=>?_⟩
   ·rw [List.map_cons]
    exact List.mem_cons_of_mem _ i1
   ·rw [List.map_cons] at h ⊢
    rcases List.mem_cons.mp h with e | e
    ·exact List.mem_cons.mpr (.inl e)
    ·exact List.mem_cons_of_mem _ (i2 g e)
theorem RelO.some_of {v:V} {o:Option Value} (r:RelO (some v) o):∃ u,o=some u∧RelV v u:=by
 cases o with
 | none=>exact (show False from r).elim
 | some u=>exact ⟨u,rfl,r⟩
theorem handed_of {v:V} {u:Value} (r:RelV v u):PySem.W.handedIn u=true:=by
 cases v with
 | non=>cases (show u=Value.none from r); rfl
 | bl b=>cases (show u=Value.bool b from r); rfl
 | int i=>obtain ⟨t,e⟩:=(show ∃ t,u=Value.int i t from r); cases e; rfl
 | str x=>obtain ⟨t,e⟩:=(show ∃ t,u=Value.str x t from r); cases e; rfl
 | byt b=>obtain ⟨t,e⟩:=(show ∃ t,u=Value.bytes b t from r); cases e; rfl
 | flt b=>obtain ⟨t,e⟩:=(show ∃ t,u=Value.float b t from r); cases e; rfl
 | ref a=>cases (show u=Value.ref a from r); rfl
 | ty n=>cases (show u=Value.type n from r); rfl
section
variable {P:Program} {w:World} {H H':Hp} {h h':Heap} {a C dx:Addr} {fs fs':List (Str×V)}
theorem ins_get (hok:HOk P w H h) (e:H a=some (.ins C dx fs)):∃ mA,ObjM h a dx C mA∧(∀ f,RelO (fs.lookup f) (mA f))∧PySem.Within mA (fs.map (·.1))∧fs.length≤1000∧H dx=some (.own a):=by
 obtain ⟨d,z,ne,ob,mA,n,r,q⟩:=(show ObjOk P w H h a (.ins C dx fs) from hok a _ e)
 exact ⟨mA,⟨ob,n,ne⟩,r,q,z,d⟩
end
structure Cls (K:PySem.W.Frag) (C:Addr):Prop where
 pg:PySem.W.plainGet K C Str.empty=true
 hd:PySem.W.hasDictIn K C=true
 po:PySem.W.plainOver K C=true
 sa:PySem.W.findIn K (.ref C) "__setattr__" = some (some (.builtin "object.__setattr__"))
theorem Cls.get {K:PySem.W.Frag} {C:Addr} (c:Cls K C) (f:Str):PySem.W.plainGet K C f=true:=c.pg
noncomputable def NoAttr (K:PySem.W.Frag) (C:Addr) (f:Str):Prop:=PySem.W.findIn K (.ref C) f=some none
structure Meth (K:PySem.W.Frag) (C:Addr) (m:Str) (f:Addr):Prop where
 at_:PySem.W.findIn K (.ref C) m=some (some (.ref f))
 fn:PySem.W.isFn K (.ref f)=true
 kp:PySem.W.keepIn K (.ref f)=true
section
variable {X:Cx} {pins:List (Addr×Obj)} {σ:St} {H:Hp} {s:Shared} {a C dx:Addr} {fs:List (Str×V)} {f:Str} {v:V} {A:Around} {E:Value→Shared→Prop}
theorem attr_of {prog:Program} {w:World} {env:Env} {e:Expr} {f:Str} {pos:Pos} {s:Shared} {Q:Value→Shared→Prop} (hb:attributeBase e f env (eval e env)=eval e env)
  (h:wpAny (model prog w) A (eval e env) (fun o s₁=>wpAny (model prog w) A (getAttr o f true) Q E s₁) E s):wpAny (model prog w) A (eval (.Attribute e f pos) env) Q E s :=
 Attribute_any_ h (by rw [arm_eval_Attribute,hb])
end
section
variable {X:Cx} {o e value:Expr} {f:Str} {pos pos' tpos:Pos} {ta tv:TE}
end
section
variable {X:Cx} {pins:List (Addr×Obj)} {σ:St} {H:Hp} {s:Shared} {A:Around} {E:Value→Shared→Prop} {Q:Value→Shared→Prop} {c:Value} {b:Bool}
inductive TyOf (K:PySem.W.Frag) (H:Hp):V→Value→Prop where
 | non:TyOf K H .non (.type "NoneType")
 | bl (x:Bool):TyOf K H (.bl x) (.type "bool")
 | int (i:Int):TyOf K H (.int i) (.type "int")
 | str (x:Str):TyOf K H (.str x) (.type "str")
 | flt (x:UInt64):TyOf K H (.flt x) (.type "float")
 | lst {a:Addr} {xs:List V} (e:H a=some (.lst xs)):TyOf K H (.ref a) (.type "list")
 | frz {a:Addr} {o:Obj} {xs:List V} (e:H a=some (.frz o (.lst xs))):TyOf K H (.ref a) (.type "list")
 | tup {a:Addr} {xs:List V} (e:H a=some (.tup xs)):TyOf K H (.ref a) (.type "tuple")
 | dK {a:Addr} {kvs:List (Key×V)} (e:H a=some (.dK kvs)):TyOf K H (.ref a) (.type "dict")
 | dT {a:Addr} {kvs:List (List Key×V)} (e:H a=some (.dT kvs)):TyOf K H (.ref a) (.type "dict")
 | ins {a C dx:Addr} {fs:List (Str×V)} (e:H a=some (.ins C dx fs)) (cl:Cls K C) (ha:PySem.W.findIn K (.ref C) "__class__" = some (some (.builtin "object.__class__")))
   (hn:PySem.W.specialIn K (.builtin "object.__class__") "__get__" = some (some (.builtin "getset_descriptor.__get__"))) (htk:PySem.W.takesIn K (.builtin "object.__class__")=some true)
   (hm:PySem.W.mroIn K C (.type "object")=some true):TyOf K H (.ref a) (.ref C)
theorem isinst_ok {x:V} {u t:Value} (I:Inv X pins σ H s) (rx:RelV x u) (ty:TyOf X.K H x t) (e:PySem.W.kitOne X.K t c=some b) (h:∀ tk,Q (.bool b) { s with toks:=tk }) :
  wpAny (model X.prog X.w) A (call (.builtin "isinstance") [u,c]) Q E s:=by
 cases ty with
 | non=>cases (show u=Value.none from rx); exact PySem.W.kia_one PySem.W.kitx_none I.kIn True.intro e (fun z=>nomatch z) h
 | bl y=>cases (show u=Value.bool y from rx); exact PySem.W.kia_one PySem.W.kitx_bool I.kIn True.intro e (fun z=>nomatch z) h
 | int i=>obtain ⟨t,q⟩:=(show ∃ t,u=Value.int i t from rx); cases q; exact PySem.W.kia_one PySem.W.kitx_int I.kIn True.intro e (fun z=>nomatch z) h
 | str y=>obtain ⟨t,q⟩:=(show ∃ t,u=Value.str y t from rx); cases q; exact PySem.W.kia_one PySem.W.kitx_str I.kIn True.intro e (fun z=>nomatch z) h
 | flt y=>obtain ⟨t,q⟩:=(show ∃ t,u=Value.float y t from rx); cases q; exact PySem.W.kia_one PySem.W.kitx_float I.kIn True.intro e (fun z=>nomatch z) h
 | @lst a xs ea =>
  cases (show u=Value.ref a from rx)
  obtain ⟨_,_,n,_,h1⟩:=(show ObjOk X.prog X.w H s.heap a (.lst xs) from I.hok a _ ea)
  exact PySem.W.kia_one PySem.W.kitx_list I.kIn ⟨_,h1,rfl⟩ e (fun z=>nomatch z) h
 | @frz a ob xs ea =>
  cases (show u=Value.ref a from rx)
  obtain ⟨_,_,_,n,_,h1⟩:=(show ObjOk X.prog X.w H s.heap a (.frz ob (.lst xs)) from I.hok a _ ea)
  exact PySem.W.kia_one PySem.W.kitx_list I.kIn ⟨_,h1,rfl⟩ e (fun z=>nomatch z) h
 | @tup a xs ea =>
  cases (show u=Value.ref a from rx)
  obtain ⟨_,_,_,p⟩:=(show ObjOk X.prog X.w H s.heap a (.tup xs) from I.hok a _ ea)
  obtain ⟨o,h1,h2,_⟩:=p
  exact PySem.W.kia_one PySem.W.kitx_tuple I.kIn ⟨o,h1,h2⟩ e (fun z=>nomatch z) h
 | @dK a kvs ea =>
  cases (show u=Value.ref a from rx)
  obtain ⟨_,_,vs,_,p⟩:=(show ObjOk X.prog X.w H s.heap a (.dK kvs) from I.hok a _ ea)
  obtain ⟨o,es,ep,h1,h2,_⟩:=p
  exact PySem.W.kia_one PySem.W.kitx_dict I.kIn ⟨o,h1,h2.1⟩ e (fun z=>nomatch z) h
 | @dT a kvs ea =>
  cases (show u=Value.ref a from rx)
  obtain ⟨_,_,xs,_,o,es,ep,h1,h2,_⟩:=(show ObjOk X.prog X.w H s.heap a (.dT kvs) from I.hok a _ ea)
  exact PySem.W.kia_one PySem.W.kitx_dict I.kIn ⟨o,h1,h2.1⟩ e (fun z=>nomatch z) h
 | @ins a C dx fs ea cl ha hn htk hm =>
  cases (show u=Value.ref a from rx)
  obtain ⟨mA,O,_⟩:=ins_get I.hok ea
  obtain ⟨od,J,_⟩:=O.look
  exact PySem.W.kia_one (PySem.W.kitx_own (cl.get _) cl.hd ha hn htk hm) I.kIn J e (fun z=>nomatch z) h
end
end L2
namespace L2
open PySem PySem.Spec PyProof.Rows
structure Room (k:Nat) (A:Around):Prop where
 hd:16≤k→A.handled=none
 dp:A.depth + 3 * k + 5 < recursionLimit
 un:A.units + 16 * k + 200 < cLine
 gd:A.guards=some []
theorem Room.mono {j k:Nat} {A:Around} (r:Room k A) (h:j≤k):Room j A:=⟨fun z=>r.hd (Nat.le_trans z h),by have:=r.dp; omega,by have:=r.un; omega,r.gd⟩
theorem Room.deeper {k:Nat} {A:Around} (r:Room (k + 1) A) (env:Env):Room k (A.deeper env) :=
 ⟨fun z=>r.hd (Nat.le_succ_of_le z),by have:=r.dp; show A.depth + 1 + 3 * k + 5 < _; omega,by have:=r.un; show A.units + 3 + 16 * k + 200 < _; omega,r.gd⟩
theorem Room.in1 {k:Nat} {A:Around} (r:Room (k + 1) A):Room k A.in1 :=
 ⟨fun z=>r.hd (Nat.le_succ_of_le z),by have:=r.dp; show A.depth + 3 * k + 5 < _; omega,by have:=r.un; show A.units + 1 + 16 * k + 200 < _; omega,r.gd⟩
theorem make_depth {A:Around} {C:Addr} {us:List Value} {kw:List (Str×Value)}:(A.under (.builtin "type.__call__" ⟨.ref C :: us,kw⟩)).depth=A.depth + 1:=by
 first | rfl | simp [Around.under,Code.weight,Code.isCreation,Code.isGuard,Code.isCaller,Code.frames,Code.isFrame,guardIds]
theorem make_units {A:Around} {C:Addr} {us:List Value} {kw:List (Str×Value)}:(A.under (.builtin "type.__call__" ⟨.ref C :: us,kw⟩)).units=A.units + 1:=by
 first | rfl | simp [Around.under,Code.cUnits,Code.frames,Code.isFrame]
theorem Room.make {k:Nat} {A:Around} (r:Room (k + 1) A) (C:Addr) (us:List Value) (kw:List (Str×Value)):Room k (A.under (.builtin "type.__call__" ⟨.ref C :: us,kw⟩)) :=
 ⟨fun z=>r.hd (Nat.le_succ_of_le z),by have:=r.dp; rw [make_depth]; omega,by have:=r.un; rw [make_units]; omega,r.gd⟩
theorem Room.depth {k:Nat} {A:Around} (r:Room k A):A.depth < recursionLimit:=by have:=r.dp; omega
theorem Room.units {k:Nat} {A:Around} (r:Room k A):A.units + 64 < cLine:=by have:=r.un; omega
noncomputable def tNil:TA:=fun _ H Q=>Q [] H
noncomputable def tCons (ta:TE) (tr:TA):TA:=fun σ H Q=>ta σ H fun x H1=>tr σ H1 fun xs H2=>Q (x :: xs) H2
section
variable {X:Cx} {e:Expr} {es:List Expr} {te:TE} {t:TA} {pos:Pos}
theorem pa_nil:PA X [] tNil:=fun _ _ _ _ H Q I h=>Calls.spliced_nil ⟨[],H,I,.nil,h⟩
theorem pa_cons (ha:PE X e te) (hr:PA X es t) (hs:starEach (e :: es) X.env=(false,eval e X.env) :: starEach es X.env:=by rfl):PA X (e :: es) (tCons te t):=by
 intro pos pins s σ H Q I h
 rw [hs]
 show wpAny _ _ (spliced ((false,eval e X.env) :: backTo pos (starEach es X.env))) _ _ s
 refine Calls.spliced_cons (thn (ha pins s σ H _ I h) fun u s1 ⟨x,H1,I1,r1,q1⟩=>?_)
 exact thn (hr pos pins s1 σ H1 _ I1 q1) fun us s2 ⟨xs,H2,I2,r2,q2⟩=>⟨x :: xs,H2,I2,.cons r1 r2,q2⟩
noncomputable def tTup (t:TA):TE:=fun σ H Q=>t σ H fun xs H1=>xs.length≤sizeLine∧∀ p,H1 p=none→Q (.ref p) (upd H1 p (.tup xs))
noncomputable def tLst (t:TA):TE:=fun σ H Q=>t σ H fun xs H1=>xs.length≤sizeLine∧∀ p,H1 p=none→Q (.ref p) (upd H1 p (.lst xs))
theorem pe_tup {x1} (h:PA X es t):PE X (.Tuple es x1 pos) (tTup t):=by
 intro pins s σ H Q I hq
 refine wpAny_Tuple_spliced (thn (h pos pins s σ H _ I hq) fun us s1 ⟨xs,H1,I1,r,z,q⟩=>⟨by rw [← r.length]; exact z,?_⟩)
 have hf:H1 s1.heap.objs.size=none:=I1.hok.fresh (Nat.le_refl _)
 refine ⟨.ref s1.heap.objs.size,upd H1 s1.heap.objs.size (.tup xs),I1.laid (t':=s1.toks) (fun b u e=>Heap.get?_push_of_some _ e) (Nat.le_refl _) ?_,rfl,q _ hf⟩
 exact ⟨z,us,r,⟨_,Heap.get?_push_size _ rfl,rfl,_,rfl,rfl⟩⟩
theorem pe_lst (h:PA X es t):PE X (.List es pos) (tLst t):=by
 intro pins s σ H Q I hq
 refine wpAny_List_spliced (thn (h pos pins s σ H _ I hq) fun us s1 ⟨xs,H1,I1,r,z,q⟩=>⟨by rw [← r.length]; exact z,?_⟩)
 have hf:H1 s1.heap.objs.size=none:=I1.hok.fresh (Nat.le_refl _)
 refine ⟨.ref s1.heap.objs.size,upd H1 s1.heap.objs.size (.lst xs),I1.laid (t':=s1.toks) (fun b u e=>Heap.get?_push_of_some _ e) (Nat.le_refl _) ?_,rfl,q _ hf⟩
 exact ⟨z,us,0,r,Heap.get?_push_size _ rfl⟩
end
noncomputable abbrev Sp:=List V→Hp→VK→XK→Prop
noncomputable abbrev CXT:=List Env→Hp→Shared→XK→Value→Shared→Prop
structure Env0 (P:Program) (w:World) (K:PySem.W.Frag) (mg:Str→Option Value) (base:Heap) (A:Around) (outer:List Env) (s:Shared) (H:Hp):Prop where
 frames:A.frames=some outer
 mod:Mod K mg base
 bs:∀ b o,base.get? b=some o→s.heap.get? b=some o∧H b=none
 bsz:base.objs.size≤s.heap.objs.size
 funs:s.heap.FunFrames base outer
 frf:∀ b∈frs outer,H b=none
 hok:HOk P w H s.heap
 bare:AllBare s.gens
 hh:HdOk A H
noncomputable def CE (outer:List Env) (P:Program) (w:World) (H:Hp) (s:Shared) (Q:VK) (u:Value) (s':Shared):Prop :=
 ∃ v H',s'.os=s.os∧AllBare s'.gens∧Un (frs outer) [] H H' s.heap s'.heap∧HOk P w H' s'.heap∧RelV v u∧Q v H'
noncomputable def CR (CX:CXT) (outer:List Env) (P:Program) (w:World) (H:Hp) (s:Shared) (Q:VK) (E:XK) (r:Result) (s':Shared):Prop :=
 match r with
 | .ok (.ret u)=>CE outer P w H s Q u s'
 | .ok _=>False
 | .error e=>CX outer H s E e s'
structure FnOk (P:Program) (w:World) (K:PySem.W.Frag) (mg:Str→Option Value) (base:Heap) (CX:CXT) (k:Nat) (f:Addr) (fd:FuncData) (ps:List Str) (sp:Sp):Prop where
 len:∀ vs H Q E,sp vs H Q E→vs.length=ps.length
 run:∀ (A:Around) (outer:List Env) (s:Shared) (H:Hp) (args:Args) (us:List Value) (vs:List V) (Q:VK) (E:XK),Room k A→Env0 P w K mg base A outer s H→BindsTo s fd args (ps.zip us)→Vals vs us→sp vs H Q E →
  codeAny (model P w) A (.call (.ref f) args) (CR CX outer P w H s Q E) s
theorem FnOk.mono {P:Program} {w:World} {K:PySem.W.Frag} {mg:Str→Option Value} {base:Heap} {CX:CXT} {j k:Nat} {f:Addr} {fd:FuncData} {ps:List Str} {sp:Sp} (F:FnOk P w K mg base CX j f fd ps sp) (h:j≤k) :
  FnOk P w K mg base CX k f fd ps sp:=⟨F.len,fun A outer s H args us vs Q E hr=>F.run A outer s H args us vs Q E (hr.mono h)⟩
theorem FnOk.imp {P:Program} {w:World} {K:PySem.W.Frag} {mg:Str→Option Value} {base:Heap} {CX:CXT} {k:Nat} {f:Addr} {fd:FuncData} {ps:List Str} {sp sp':Sp} (F:FnOk P w K mg base CX k f fd ps sp)
  (h:∀ vs H Q E,sp' vs H Q E→sp vs H Q E):FnOk P w K mg base CX k f fd ps sp' :=
 ⟨fun vs H Q E q=>F.len vs H Q E (h _ _ _ _ q),fun A outer s H args us vs Q E hr he hb hv hs=>F.run A outer s H args us vs Q E hr he hb hv (h _ _ _ _ hs)⟩
theorem Env0.make {P:Program} {w:World} {K:PySem.W.Frag} {mg:Str→Option Value} {base:Heap} {A:Around} {outer:List Env} {s:Shared} {H:Hp} (e:Env0 P w K mg base A outer s H) (C:Addr) (us:List Value) (kw:List (Str×Value)) :
  Env0 P w K mg base (A.under (.builtin "type.__call__" ⟨.ref C :: us,kw⟩)) outer s H:=⟨by first | exact e.frames | (simpa [Around.under,Code.envs,Code.isFrame,pushEnvs] using e.frames),e.mod,e.bs,e.bsz,e.funs,e.frf,e.hok,e.bare,e.hh⟩
theorem Env0.in1 {P:Program} {w:World} {K:PySem.W.Frag} {mg:Str→Option Value} {base:Heap} {A:Around} {outer:List Env} {s:Shared} {H:Hp} (e:Env0 P w K mg base A outer s H) :
  Env0 P w K mg base A.in1 outer s H:=⟨e.frames,e.mod,e.bs,e.bsz,e.funs,e.frf,e.hok,e.bare,e.hh⟩
section
variable {X:Cx} {pins:List (Addr×Obj)} {σ:St} {H:Hp} {s s':Shared}
theorem Inv.env0 (I:Inv X pins σ H s):Env0 X.prog X.w X.K X.mg X.base X.A X.stack s H :=
 ⟨I.ok.frames,I.ok.mod,I.bs,Nat.le_trans I.ok.bsz I.sz,I.stack,I.stkFree,I.hok,I.bare,I.hh⟩
theorem Inv.after {Q:VK} {u:Value} (I:Inv X pins σ H s) (h:CE X.stack X.prog X.w H s Q u s'):EP X pins σ Q u s':=by
 obtain ⟨v,H',os,bare,un,hok,r,q⟩:=h
 obtain ⟨hh,g,d,t,os'⟩:=s'
 obtain rfl:os'=s.os:=os
 exact ⟨v,H',I.call (h':=hh) (g':=g) (d':=d) (t':=t) (ch:=[]) un hok bare (fun b z=>absurd z (by simp)),r,q⟩
end
noncomputable def tCall (sp:Sp) (dvs:List V) (E:XK) (t:TA):TE:=fun σ H Q=>t σ H fun vs H1=>sp (vs ++ dvs) H1 Q E
noncomputable def Binds (K:PySem.W.Frag) (fd:FuncData) (ps:List Str) (ds:List Value):Prop :=
 ∀ (s:Shared) (us:List Value),K.In s.heap→(us ++ ds).length=ps.length→BindsTo s fd ⟨us,[]⟩ (ps.zip (us ++ ds))
theorem Binds.all {K:PySem.W.Frag} {fd:FuncData} {ps:List Str} (h:∀ us:List Value,us.length=ps.length→bindArgs fd ⟨us,[]⟩=pure (ps.zip us)):Binds K fd ps []:=fun s us _ hl=>by
 rw [List.append_nil] at hl ⊢
 exact .of_eq (h us hl)
noncomputable def Passes (CX:CXT) (X:Cx) (E:XK):Prop:=∀ (pins:List (Addr×Obj)) (σ:St) (H:Hp) (s:Shared) (e:Value) (s':Shared),Inv X pins σ H s→CX X.stack H s E e s'→X.xe e s'
section
variable {X:Cx} {CX:CXT} {k:Nat} {f C:Addr} {fd:FuncData} {ps:List Str} {sp:Sp} {dvs:List V} {ds:List Value} {E:XK} {x m:Str} {p pos apos:Pos} {e o:Expr} {es:List Expr} {ta:TE} {t:TA}
theorem run_fn {pins:List (Addr×Obj)} {σ:St} {H:Hp} {s:Shared} {Q:VK} {us:List Value} {vs:List V} (F:FnOk X.prog X.w X.K X.mg X.base CX k f fd ps sp) (hr:Room k X.A) (hb:Binds X.K fd ps ds) (hd:Vals dvs ds) (hx:Passes CX X E)
  (I:Inv X pins σ H s) (r:Vals vs us) (h:sp (vs ++ dvs) H Q E):wpAny (model X.prog X.w) X.A (call (.ref f) us) (EP X pins σ Q) X.xe s:=by
 have r2:Vals (vs ++ dvs) (us ++ ds):=r.append hd
 have hl:(us ++ ds).length=ps.length:=by rw [← r2.length]; exact F.len _ _ _ _ h
 refine wpAny_call (codeAny_mono (F.run X.A X.stack s H ⟨us,[]⟩ (us ++ ds) (vs ++ dvs) Q E hr I.env0 (hb s us I.kIn hl) r2 h) fun r s' hq=>?_)
 cases r with
 | error e=>exact hx pins σ H s e s' I hq
 | ok fl =>
  cases fl with
  | ret u=>exact I.after hq
  | next=>exact False.elim hq
  | brk=>exact False.elim hq
  | cont=>exact False.elim hq
theorem pe_call (F:FnOk X.prog X.w X.K X.mg X.base CX k f fd ps sp) (hr:Room k X.A) (hg:Gl X x) (hm:X.mg x=some (.ref f)) (hk:PySem.W.keepIn X.K (.ref f)=true) (hb:Binds X.K fd ps ds) (hd:Vals dvs ds) (hx:Passes CX X E)
  (ha:PA X (e :: es) t) (hdb:(x == ("__debug__" : Str))=false:=by decide) (he:starEach (e :: es) X.env=(false,eval e X.env) :: starEach es X.env:=by rfl) (hpl:(backTo pos (starEach es X.env)).any (·.1)=false:=by rfl) :
  PE X (.Call (.Name x p) (e :: es) [] pos) (tCall sp dvs E t):=by
 intro pins s σ H Q I h
 refine wpAny_Call_Name_kw (ld_glob I hg hm ?_ hdb)
 refine PySem.W.callWith_K (h₀:=X.base) I.ok.mod.kin hk (thn (ha pos pins s σ H _ I h) fun us s1 ⟨vs,H1,I1,r,q⟩=>⟨I1.kIn,?_⟩) he hpl
 exact run_fn F hr hb hd hx I1 r q
theorem pe_call0 (F:FnOk X.prog X.w X.K X.mg X.base CX k f fd ps sp) (hr:Room k X.A) (hg:Gl X x) (hm:X.mg x=some (.ref f)) (hk:PySem.W.keepIn X.K (.ref f)=true) (hb:Binds X.K fd ps ds) (hd:Vals dvs ds) (hx:Passes CX X E)
  (hdb:(x == ("__debug__" : Str))=false:=by decide):PE X (.Call (.Name x p) [] [] pos) (tCall sp dvs E tNil):=by
 intro pins s σ H Q I h
 refine wpAny_Call_Name_kw (ld_glob I hg hm ?_ hdb)
 exact PySem.W.callWith_K0 I.kIn hk (run_fn (us:=[]) F hr hb hd hx I .nil h)
structure Mk (K:PySem.W.Frag) (C f:Addr):Prop where
 makes:PySem.W.makesIn K C=true
 init:PySem.W.findIn K (.ref C) "__init__" = some (some (.ref f))
 fn:PySem.W.isFn K (.ref f)=true
 kp:PySem.W.keepIn K (.ref C)=true
end
section
variable {X:Cx} {CX:CXT} {k:Nat} {f C:Addr} {fd:FuncData} {ps ks:List Str} {sp:Sp} {E:XK} {x m:Str} {p pos apos kpos:Pos} {e o:Expr} {es:List Expr} {kws:List Keyword} {te ta:TE} {t tk:TA} {nm:Option Str}
variable {g:List Value→List Value→List Value} {gV:List V→List V→List V}
end
structure FnScope (N P:List Str) (sc:Scope):Prop where
 kind:sc.kind = .function
 co:sc.isCoroutine=false
 gen:sc.isGenerator=false
 nd:N.Nodup
 pre:N.take P.length=P
 par:∀ x∈P,sc.names.lookup x=some .local∨sc.names.lookup x=some .cell
 nofree:∀ y∈sc.names,y.2≠.free
theorem bindL_out {kindOf:Str→Option NameKind} {x:Str}:∀ {binds:List (Str×Value)} {m:Str→Option Value},(∀ v,(x,v) ∉ binds)→bindL kindOf binds m x=m x
 | [],_,_=>rfl
 | (n,v) :: r,m,h=>by
  unfold bindL
  rw [bindL_out fun w hw=>h w (List.mem_cons_of_mem _ hw)]
  split
  ·have:x≠n:=by rintro rfl; exact h v List.mem_cons_self
   simp [this]
  ·rfl
theorem bindC_out {kindOf:Str→Option NameKind} {x:Str}:∀ {binds:List (Str×Value)} {m:Str→Option Value},(∀ v,(x,v) ∉ binds)→bindC kindOf binds m x=m x
 | [],_,_=>rfl
 | (n,v) :: r,m,h=>by
  unfold bindC
  rw [bindC_out fun w hw=>h w (List.mem_cons_of_mem _ hw)]
  split
  ·rfl
  ·have:x≠n:=by rintro rfl; exact h v List.mem_cons_self
   simp [this]
theorem bindL_get {kindOf:Str→Option NameKind} {x:Str} {v:Value}:∀ {P:List Str} {vs:List Value} {i:Nat} {m:Str→Option Value},P.Nodup→P[i]? = some x→vs[i]? = some v→kindOf x=some .local →
  bindL kindOf (P.zip vs) m x=some v
 | [],_,_,_,_,h,_,_=>by simp at h
 | _ :: _,[],_,_,_,_,h,_=>by simp at h
 | p :: P,w :: vs,0,m,nd,h1,h2,hk=>by
  simp at h1 h2; subst h1; subst h2
  show bindL kindOf ((p,w) :: P.zip vs) m p=_
  unfold bindL
  rw [bindL_out fun v hv=>(List.nodup_cons.mp nd).1 (List.of_mem_zip hv).1,if_pos hk]
  simp
 | p :: P,w :: vs,i + 1,m,nd,h1,h2,hk=>by
  show bindL kindOf ((p,w) :: P.zip vs) m x=_
  unfold bindL
  exact bindL_get (i:=i) (List.nodup_cons.mp nd).2 (by simpa using h1) (by simpa using h2) hk
theorem bindC_get {kindOf:Str→Option NameKind} {x:Str} {v:Value}:∀ {P:List Str} {vs:List Value} {i:Nat} {m:Str→Option Value},P.Nodup→P[i]? = some x→vs[i]? = some v→kindOf x≠some .local →
  bindC kindOf (P.zip vs) m x=some v
 | [],_,_,_,_,h,_,_=>by simp at h
 | _ :: _,[],_,_,_,_,h,_=>by simp at h
 | p :: P,w :: vs,0,m,nd,h1,h2,hk=>by
  simp at h1 h2; subst h1; subst h2
  show bindC kindOf ((p,w) :: P.zip vs) m p=_
  unfold bindC
  rw [bindC_out fun v hv=>(List.nodup_cons.mp nd).1 (List.of_mem_zip hv).1,if_neg hk]
  simp
 | p :: P,w :: vs,i + 1,m,nd,h1,h2,hk=>by
  show bindC kindOf ((p,w) :: P.zip vs) m x=_
  unfold bindC
  exact bindC_get (i:=i) (List.nodup_cons.mp nd).2 (by simpa using h1) (by simpa using h2) hk
noncomputable def start (N:List Str) (vs:List V):St:=vs.map some ++ List.replicate (N.length - vs.length) none
noncomputable def cxOf (CX:CXT) (P:Program) (w:World) (K:PySem.W.Frag) (mg:Str→Option Value) (base:Heap) (N:List Str) (qual:Str) (scope:Scope) (f:Addr) (cd:Value) (A:Around) (outer:List Env) (s:Shared) (H:Hp) (E:XK):Cx where
 prog:=P
 w:=w
 K:=K
 mg:=mg
 base:=base
 A:=A.deeper (envOfC qual scope s.heap.objs.size f cd)
 N:=N
 s₀:=s
 H₀:=H
 env:=envOfC qual scope s.heap.objs.size f cd
 outer:=outer
 stack:=envOfC qual scope s.heap.objs.size f cd :: outer
 ex:=[]
 calm:=A.handled.isNone
 fn:=fun _=>true
 pn:=[]
 xe:=fun e s'=>wpAny (model P w) (A.deeper (envOfC qual scope s.heap.objs.size f cd)) (leaving (envOfC qual scope s.heap.objs.size f cd) e) (fun _ s''=>CX outer H s E e s'') (fun e' s''=>CX outer H s E e' s'') s'
theorem cell_has {sc:Scope} {n:Nat} {x:Str} (h:sc.names.lookup x=some .cell):∃ c,(cellsFrom n sc.names []).lookup x=some c:=by
 have q:=PySem.W.cellsFrom_some sc.names n [] (.inl h)
 exact Option.isSome_iff_exists.mp q
theorem inv_start {CX:CXT} {P:Program} {w:World} {K:PySem.W.Frag} {mg:Str→Option Value} {base:Heap} {N ps:List Str} {qual:Str} {scope:Scope} {f:Addr} {cd:Value} {A:Around} {outer:List Env} {s s1:Shared} {H:Hp} {E:XK} {us:List Value} {vs:List V}
  (S:FnScope N ps scope) (e0:Env0 P w K mg base A outer s H) (hl:vs.length=ps.length) (r:Vals vs us)
  (x:InCallC s s.heap.objs.size (bindL (envOfC qual scope s.heap.objs.size f cd).kindOf (ps.zip us) fun _=>none) (cellsFrom (s.heap.objs.size + 1) scope.names []) (bindC (envOfC qual scope s.heap.objs.size f cd).kindOf (ps.zip us) fun _=>none) s1) :
  Inv (cxOf CX P w K mg base N qual scope f cd A outer s H E) [] (start N vs) H s1:=by
 have hpl:ps.length≤N.length:=by have:=congrArg List.length S.pre; rw [List.length_take] at this; omega
 obtain ⟨h1,tk,rfl,hk⟩:=x.done
 have noA:∀ b:Addr,b ∉ (cxOf CX P w K mg base N qual scope f cd A outer s H E).ex:=fun b z=>absurd (show b∈([]:List Addr) from z) (by simp)
 refine ⟨⟨e0.mod,S.kind,rfl,rfl,Nat.le_refl _,fun y z c h1 h2=>?_,fun y hy=>?_,fun y c _ h=>?_,fun z=>Option.isNone_iff_eq_none.mp z,Around.frames_deeper e0.frames,.inr ⟨rfl,rfl⟩,fun b z=>absurd z (noA b),e0.bs,e0.bsz,fun b _ _=>noA b,fun b z=>absurd z (noA b),e0.funs,e0.frf⟩,
  rfl,e0.bare,Un.kept hk,⟨_,x.toInCall.ns,fun i y v h1 h2 h3=>?_⟩,fun y c h=>⟨_,x.cell y c h⟩,e0.hok.fresh (Nat.le_refl _),fun y c h=>?_,fun p hp=>absurd (show p∈([]:List (Addr×Obj)) from hp) (by simp),e0.hok.kept hk,?_,e0.hh⟩
 ·exact name_of_addr x.apart (PySem.mem_of_lookup h1) (PySem.mem_of_lookup h2)
 ·have hy:scope.names.lookup y=some .cell∨scope.names.lookup y=some .free:=hy
  rcases hy with hy | hy
  ·exact cell_has hy
  ·exact absurd rfl (S.nofree _ (PySem.mem_of_lookup hy))
 ·exact Nat.le_of_lt (x.above y c (PySem.mem_of_lookup h))
 ·have hi:i < vs.length:=by
   unfold start at h2
   by_cases hi:i < vs.length
   ·exact hi
   ·rw [List.getElem?_append_right (by simpa using hi)] at h2
    rw [List.getElem?_replicate] at h2
    split at h2 <;> cases h2
  have ha:vs[i]? = some v:=by
   unfold start at h2
   rw [List.getElem?_append_left (by simpa using hi),List.getElem?_map] at h2
   cases e:vs[i]? with
   | none=>rw [e] at h2; cases h2
   | some a=>rw [e] at h2; cases h2; rfl
  obtain ⟨u,hu,rv⟩:=r.get ha
  have hp:ps[i]? = some y:=by
   rw [← S.pre,List.getElem?_take_of_lt (by omega)]; exact h1
  have ndP:ps.Nodup:=by rw [← S.pre]; exact S.nd.sublist (List.take_sublist _ _)
  refine ⟨u,rv,?_⟩
  rcases S.par y (List.mem_of_getElem? hp) with k | k
  ·exact .inl ⟨k,bindL_get ndP hp hu k⟩
  ·obtain ⟨c,e⟩:=cell_has (n:=s.heap.objs.size + 1) k
   refine .inr ⟨.inl k,c,e,?_⟩
   have q:=x.cell y c e
   rw [bindC_get ndP hp hu (by show scope.names.lookup y≠_; rw [k]; decide)] at q
   exact q
 ·exact e0.hok.fresh (Nat.le_of_lt (x.above y c (PySem.mem_of_lookup h)))
 ·unfold start
  show _=N.length
  rw [List.length_append,List.length_map,List.length_replicate]
  omega
theorem fn_of {CX:CXT} {P:Program} {w:World} {K:PySem.W.Frag} {mg:Str→Option Value} {base:Heap} {k:Nat} {f:Addr} {name qual:Str} {params:Arguments} {body:List Stmt} {scope:Scope} {dV kV doc pm cdv ct oc:Value} {an od:Option Addr}
  {osl:Array (Option Value)} {N ps:List Str} {sp:Sp} (lk:K.lookup f=some ⟨oc,od,.func (PySem.W.fnOf name qual params body scope dV kV doc pm an cdv ct),osl⟩) (hcd:PySem.W.codeIn K cdv qual=true) (S:FnScope N ps scope)
  (len:∀ vs H Q E,sp vs H Q E→vs.length=ps.length)
  (hbody:∀ (A:Around) (outer:List Env) (s:Shared) (H:Hp) (vs:List V) (Q:VK) (E:XK),Room k (A.deeper (envOfC qual scope s.heap.objs.size f cdv))→sp vs H Q E →
   ∃ t,PSs (cxOf CX P w K mg base N qual scope f cdv A outer s H E) body t∧t { nx:=fun _ H'=>Q .non H',rt:=Q } (start N vs) H) :
  FnOk P w K mg base CX (k + 1) f (PySem.W.fnOf name qual params body scope dV kV doc pm an cdv ct) ps sp:=by
 refine ⟨len,fun A outer s H args us vs Q E hr e0 hb r hsp=>?_⟩
 have hl:=len _ _ _ _ hsp
 have KX:K.In s.heap:=e0.mod.kin.keeps fun b o e=>(e0.bs b o e).1
 have lim:s.heap.NoLimit:=e0.mod.nolimit.keeps fun b o e=>(e0.bs b o e).1
 have hkind:∀ y∈ps.zip us,scope.names.lookup y.1=some .local∨(scope.names.lookup y.1=some .cell∧((cellsFrom (s.heap.objs.size + 1) scope.names []).lookup y.1).isSome=true):=fun ⟨n,v⟩ hy=>by
  rcases S.par n (List.of_mem_zip hy).1 with q | q
  ·exact .inl q
  ·exact .inr ⟨q,PySem.W.cellsFrom_some _ _ _ (.inl q)⟩
 refine codeAny_call_function hr.depth (KX _ _ lk) rfl S.co S.gen rfl (PySem.W.codeRec_of KX hcd) (hb _ _ _ _ ?_)
 refine wpAny_newFunctionEnv_cells S.kind hkind fun env he s1 x=>?_
 subst he
 refine ⟨lim.keeps x.toInCall.keep,codeAny_func ?_⟩
 obtain ⟨t,ht,hq⟩:=hbody A outer s H vs Q E (hr.deeper _) hsp
 have I:Inv (cxOf CX P w K mg base N qual scope f cdv A outer s H E) [] (start N vs) H s1:=inv_start S e0 hl r x
 refine wpAny_mono (ht [] s1 (start N vs) H _ I hq) (fun fl s' hs=>?_) fun e s' hs=>hs
 have fin:∀ {σ':St} {H':Hp} {v:V} {u:Value},Inv (cxOf CX P w K mg base N qual scope f cdv A outer s H E) [] σ' H' s'→RelV v u→Q v H'→CE outer P w H s Q u s' :=
  fun {σ' H' v u} J rv q=>⟨v,H',J.os,J.bare,J.base,J.hok,rv,q⟩
 cases fl with
 | ret u =>
  obtain ⟨v,σ',H',J,rv,q⟩:=hs
  exact fin J rv q
 | next =>
  obtain ⟨σ',H',J,q⟩:=hs
  exact fin (v:=V.non) (u:=Value.none) J rfl q
 | brk =>
  obtain ⟨_,_,_,q⟩:=hs
  exact False.elim q
 | cont =>
  obtain ⟨_,_,_,q⟩:=hs
  exact False.elim q
end L2
namespace L2
open PySem PySem.Spec PyProof.Rows
section
variable {X:Cx} {x:Str} {p pos:Pos} {e:Expr} {es:List Expr} {t:TA} {id T:String} {r:List V→Hp→VK→Prop}
noncomputable def tCB (r:List V→Hp→VK→Prop) (t:TA):TE:=fun σ H Q=>t σ H fun vs H1=>r vs H1 Q
theorem pe_callB (hc:CallR X (.builtin id) r) (hg:Gl X x) (hm:X.mg x=none) (hv:bootBuiltins x=some (.builtin id)) (ha:PA X (e :: es) t) (hn:x≠"__name__":=by decide) (hdb:(x == ("__debug__" : Str))=false:=by decide)
  (he:starEach (e :: es) X.env=(false,eval e X.env) :: starEach es X.env:=by rfl) (hpl:(backTo pos (starEach es X.env)).any (·.1)=false:=by rfl):PE X (.Call (.Name x p) (e :: es) [] pos) (tCB r t):=by
 intro pins s σ H Q I h
 refine wpAny_Call_Name_kw (ld_blt I hg hm hv ?_ hn hdb)
 exact PyProof.Rows.callWith_builtin1 (thn (ha pos pins s σ H _ I h) fun us s1 ⟨vs,H1,I1,r1,q1⟩=>hc pins s1 σ H1 vs us Q I1 r1 q1) he hpl
theorem pe_callTy (hc:CallR X (.type T) r) (hg:Gl X x) (hm:X.mg x=none) (hv:bootBuiltins x=some (.type T)) (ha:PA X (e :: es) t) (hn:x≠"__name__":=by decide) (hdb:(x == ("__debug__" : Str))=false:=by decide)
  (he:starEach (e :: es) X.env=(false,eval e X.env) :: starEach es X.env:=by rfl) (hpl:(backTo pos (starEach es X.env)).any (·.1)=false:=by rfl):PE X (.Call (.Name x p) (e :: es) [] pos) (tCB r t):=by
 intro pins s σ H Q I h
 refine wpAny_Call_Name_kw (ld_blt I hg hm hv ?_ hn hdb)
 exact PyProof.Rows.callWith_type1 (thn (ha pos pins s σ H _ I h) fun us s1 ⟨vs,H1,I1,r1,q1⟩=>hc pins s1 σ H1 vs us Q I1 r1 q1) he hpl
end
end L2
namespace HT
open PySem PyProof.Rows
section
open PySem.SeqAt
open PySem.AutoSeq1 (wpAny_loadPart')
open PySem.MeetsSeq PySem.MeetsSeq2 PySem.MeetsSeq3
end
section
variable {prog:Program} {w:World} {A:Around} {E:Value→Shared→Prop} {s:Shared}
theorem cat_tup {t b:Addr} {vs ws:List Value} {Q:Value→Shared→Prop} (ht:IsTup s.heap t vs.toArray) (hb:IsTup s.heap b ws.toArray) (hv:vs≠[])
  (h1:ws=[]→Q (.ref t) s) (h2:ws≠[]→Q (.ref s.heap.objs.size) { s with heap:=s.heap.push { cls:=.type "tuple",data:=.seq (vs ++ ws).toArray } })
  (hsz:vs.length + ws.length≤sizeLine):wpAny (model prog w) A (binaryOp .Add (.ref t) (.ref b)) Q E s:=by
 obtain ⟨⟨cls,dd,data,sl⟩,ho,hc,n,hd⟩:=id ht
 obtain ⟨⟨cls2,dd2,data2,sl2⟩,ho2,hc2,n2,hd2⟩:=id hb
 simp only at hc hd hc2 hd2
 subst hc hd hc2 hd2
 have e:vs.toArray ++ ws.toArray=(vs ++ ws).toArray:=by simp
 by_cases hw:ws=[]
 ·exact concat_meets ⟨_,ho,rfl⟩ ⟨_,ho2,rfl⟩ noFill_tuple_add seq_tuple_add PySem.F.slot_tuple_add PySem.F.entry_tuple_add (PySem.F.args_tuple_add_2 _ _)
   (tuple_addW1 t b vs.toArray ws.toArray n n2 dd dd2 sl sl2 (by simpa using hv) (by simp [hw])) ⟨ho,ho2,h1 hw⟩
 ·refine concat_meets ⟨_,ho,rfl⟩ ⟨_,ho2,rfl⟩ noFill_tuple_add seq_tuple_add PySem.F.slot_tuple_add PySem.F.entry_tuple_add (PySem.F.args_tuple_add_2 _ _)
   (tuple_addW2 t b vs.toArray ws.toArray n n2 dd dd2 sl sl2 (by simpa using hv) (by simpa using hw) (by rw [List.size_toArray,List.size_toArray]; exact hsz)) ⟨ho,ho2,?_⟩
  rw [e]
  exact h2 hw
noncomputable def sIx (n d:Nat):Option Int→Nat
 | none=>d
 | some v=>if v < 0 then (v + (n:Int)).toNat else min v.toNat n
theorem sIx_le (n d:Nat) (hd:d≤n) (o:Option Int):sIx n d o≤n:=by
 cases o with
 | none=>exact hd
 | some v =>
  show (if v < 0 then (v + (n:Int)).toNat else min v.toNat n)≤n
  by_cases hv:v < 0
  ·rw [if_pos hv]; omega
  ·rw [if_neg hv]; exact Nat.min_le_right _ _
theorem clip_eq (v:Int) (n d:Nat):(if v < 0 then max (v + (n:Int)) 0 else min v (n:Int))=((sIx n d (some v):Nat):Int):=by
 show (if v < 0 then max (v + (n:Int)) 0 else min v (n:Int))=(((if v < 0 then (v + (n:Int)).toNat else min v.toNat n):Nat):Int)
 by_cases hv:v < 0
 ·simp only [if_pos hv]; omega
 ·simp only [if_neg hv]; omega
theorem adjust_gen (lo hi:Option Int) (n:Nat):Builtin.Slice.sliceAdjust lo hi 1 (n:Int)=(((sIx n 0 lo:Nat):Int),((sIx n n hi:Nat):Int)):=by
 have h1:¬ ((1:Int) < 0):=by omega
 unfold Builtin.Slice.sliceAdjust
 simp only [h1,if_false]
 refine Prod.ext ?_ ?_
 ·cases lo with
  | none=>rfl
  | some v=>exact clip_eq v n 0
 ·cases hi with
  | none=>rfl
  | some v=>exact clip_eq v n n
theorem places_gen (i j:Nat):Builtin.Slice.slicePlaces (i:Int) (j:Int) 1=j - i:=by
 unfold Builtin.Slice.slicePlaces
 have h1:(1:Int) > 0:=by omega
 simp only [h1,if_true,Int.ediv_one]
 split <;> omega
theorem slicePart_ {v:Value} {o:Option Int} {Q:Option Int→Shared→Prop} (p:IsPart v o) (h:Q o s):wpAny (model prog w) A (Builtin.Slice.slicePartIndex v) Q E s:=by
 cases p with
 | none=>exact slicePart_none h
 | int i t=>exact slicePart_int h
theorem sliceApplied_gen {sl:Addr} {vl vu:Value} {lo hi:Option Int} {n:Nat} {Q:Int×Int×Nat→Shared→Prop} (hs:s.heap.IsSliceOf sl vl vu .none) (pl:IsPart vl lo) (pu:IsPart vu hi)
  (h:Q (((sIx n 0 lo:Nat):Int),1,sIx n n hi - sIx n 0 lo) s):wpAny (model prog w) A (Builtin.Slice.sliceApplied (.ref sl) (pure (n:Int))) Q E s:=by
 obtain ⟨os,hos,hcs,hds⟩:=id hs
 unfold Builtin.Slice.sliceApplied Builtin.Slice.sliceFields
 refine wpAny_bind (wpAny_bind (wpAny_field hos hds (x:=vl) rfl (wpAny_bind (wpAny_field hos hds (x:=vu) rfl (wpAny_bind (wpAny_field hos hds (x:=.none) rfl (wpAny_pure ?_)))))))
 refine wpAny_bind (slicePart_none ?_)
 show wpAny _ _ (if ((1:Int) == 0)=true then _ else _) _ _ s
 rw [if_neg (by decide)]
 refine wpAny_bind (slicePart_ pl (wpAny_bind (slicePart_ pu (wpAny_bind (wpAny_pure ?_)))))
 show wpAny _ _ (match Builtin.Slice.sliceAdjust lo hi 1 (n:Int) with | (lo,hi)=>pure (lo,(1:Int),Builtin.Slice.slicePlaces lo hi 1)) _ _ s
 rw [adjust_gen lo hi n]
 show wpAny _ _ (pure (((sIx n 0 lo:Nat):Int),(1:Int),Builtin.Slice.slicePlaces ((sIx n 0 lo:Nat):Int) ((sIx n n hi:Nat):Int) 1)) _ _ s
 rw [places_gen]
 exact wpAny_pure h
theorem pick_gen (xs:Array Value) (i k:Nat):((List.range k).filterMap fun (m:Nat)=>xs[((i:Int) + (m:Int) * 1).toNat]?).toArray=((xs.toList.drop i).take k).toArray:=by
 have e:(fun (m:Nat)=>xs[((i:Int) + (m:Int) * 1).toNat]?)=fun m=>xs[i + m]?:=by
  funext m
  have:((i:Int) + (m:Int) * 1).toNat=i + m:=by omega
  rw [this]
 rw [e]
 have:=pick_run xs i k
 rw [List.filterMap_map] at this
 have e2:((fun x=>xs[x]?) ∘ fun x=>i + x)=fun m=>xs[i + m]?:=rfl
 rw [e2] at this
 rw [this]
theorem getItem_tuple_cut {t sl:Addr} {items:Array Value} {vl vu:Value} {lo hi:Option Int} {Q:Value→Shared→Prop} (ht:IsTup s.heap t items) (hs:s.heap.IsSliceOf sl vl vu .none) (pl:IsPart vl lo) (pu:IsPart vu hi)
  (hw:¬ (sIx items.size 0 lo=0∧sIx items.size items.size hi=items.size))
  (h:Q (.ref s.heap.objs.size) { s with heap:=s.heap.push { cls:=.type "tuple",data:=.seq ((items.toList.drop (sIx items.size 0 lo)).take (sIx items.size items.size hi - sIx items.size 0 lo)).toArray } })
  (hsz:items.size≤sizeLine):wpAny (model prog w) A (getItem (.ref t) (.ref sl)) Q E s:=by
 have htake:sizeOk (.seq ((items.toList.drop (sIx items.size 0 lo)).take (sIx items.size items.size hi - sIx items.size 0 lo)).toArray):=by
  show ((items.toList.drop (sIx items.size 0 lo)).take (sIx items.size items.size hi - sIx items.size 0 lo)).toArray.size≤sizeLine
  rw [List.size_toArray,List.length_take,List.length_drop,Array.length_toList]
  omega
 have hj:sIx items.size items.size hi≤items.size:=sIx_le _ _ (Nat.le_refl _) hi
 obtain ⟨os,hos,hcs,hds⟩:=id hs
 have hTs:s.TypeIs (.ref sl) "slice":=⟨os,hos,hcs⟩
 unfold getItem
 try with_reducible refine wpAny_holding ?_
 first | refine wpAny_bind (wpAny_pure ?_) | skip
 refine wpAny_bind (wpAny_sequenceKey ht.typeIs (by decide) ?_)
 refine wpAny_bind (wpAny_callSpecial?_slot (name:=Str.ofString "__getitem__") ht.typeIs PyProof.Rows.slot_tuple_getitem
  (wpAny_call_entry PyProof.Rows.slot_tuple_getitem ht.typeIs entry_tuple_getitem ?_ (args_tuple_getitem _ _)))
 show wpAny _ _ (Builtin.Tuple.tupleItemsOf (.ref t) >>= _) _ _ s
 refine wpAny_bind (tupleItemsOf_ ht ?_)
 refine wpAny_bind (wpAny_typeOf hTs ?_)
 rw [if_pos (by decide)]
 refine wpAny_bind (sliceApplied_gen hs pl pu ?_)
 have hno:¬ ((((sIx items.size 0 lo:Nat):Int) == 0 && (1:Int) == 1 && (sIx items.size items.size hi - sIx items.size 0 lo) == items.size)=true):=by
  intro q
  rw [Bool.and_eq_true,Bool.and_eq_true] at q
  have q1:((sIx items.size 0 lo:Nat):Int)=0:=eq_of_beq q.1.1
  have q2:sIx items.size items.size hi - sIx items.size 0 lo=items.size:=eq_of_beq q.2
  exact hw ⟨by omega,by omega⟩
 show wpAny _ _ (if (((sIx items.size 0 lo:Nat):Int) == 0 && (1:Int) == 1 && (sIx items.size items.size hi - sIx items.size 0 lo) == items.size)=true then _ else _) _ _ s
 rw [if_neg hno,pick_gen]
 first
  | exact wpAny_bind (m:=Builtin.Tuple.tupleExact _) (wpAny_newObj_type (wpAny_pure ⟨_,rfl,wpAny_pure h⟩) htake)
  | exact wpAny_bind (m:=Builtin.Tuple.tupleExact _) (wpAny_newObj_type (wpAny_bind (wpAny_pure (wpAny_pure ⟨_,rfl,wpAny_pure h⟩))) htake)
  | exact wpAny_bind (wpAny_bind (m:=Builtin.Tuple.tupleExact _) (wpAny_newObj_type (wpAny_pure (wpAny_pure ⟨_,rfl,wpAny_pure h⟩)) htake))
  | exact wpAny_bind (wpAny_bind (m:=Builtin.Tuple.tupleExact _) (wpAny_newObj_type (wpAny_pure ⟨_,rfl,wpAny_pure h⟩) htake))
end
end HT
namespace L2
open PySem PySem.Spec PyProof.Rows
noncomputable abbrev TO:=St→Hp→(Option Int→Hp→Prop)→Prop
noncomputable def PO (X:Cx) (e:Option Expr) (t:TO):Prop :=
 ∀ (pins:List (Addr×Obj)) (s:Shared) (σ:St) (H:Hp) (Q:Option Int→Hp→Prop),Inv X pins σ H s→t σ H Q →
  wpAny (model X.prog X.w) X.A (evalPart e X.env) (fun u s'=>∃ o H',Inv X pins σ H' s'∧IsPart u o∧Q o H') X.xe s
noncomputable def tNoPart:TO:=fun _ H Q=>Q none H
noncomputable def tPart (t:TE):TO:=fun σ H Q=>t σ H fun x H1=>∃ i,x = .int i∧Q (some i) H1
section
variable {X:Cx} {e:Expr} {te:TE} {lo hi:Option Expr} {tl th:TO} {pos p2:Pos}
theorem po_none:PO X none tNoPart:=by
 intro pins s σ H Q I h
 rw [evalPart_none]
 exact wpAny_pure ⟨none,H,I,.none,h⟩
theorem po_some (h:PE X e te):PO X (some e) (tPart te):=by
 intro pins s σ H Q I hw
 rw [evalPart_some]
 refine thn (h pins s σ H _ I hw) fun u s1 ⟨x,H1,I1,r1,q1⟩=>?_
 obtain ⟨i,rfl,q⟩:=q1
 obtain ⟨t,rfl⟩:=r1
 exact ⟨some i,H1,I1,.int i t,q⟩
noncomputable def SlR (X:Cx) (r:V→Option Int→Option Int→Hp→VK→Prop):Prop :=
 ∀ (pins:List (Addr×Obj)) (s:Shared) (σ:St) (H:Hp) (x:V) (v vl vu:Value) (lo hi:Option Int) (sl:Addr) (Q:VK),Inv X pins σ H s→RelV x v→s.heap.IsSliceOf sl vl vu .none→IsPart vl lo→IsPart vu hi→r x lo hi H Q →
  ∃ T id,typeLookup (.type T) "__getitem__" = pure (some (.builtin id))∧s.TypeIs v T∧wpAny (model X.prog X.w) X.A (getItem v (.ref sl)) (EP X pins σ Q) X.xe s
theorem SlR.or {r r':V→Option Int→Option Int→Hp→VK→Prop} (h:SlR X r) (h':SlR X r'):SlR X (fun x lo hi H Q=>r x lo hi H Q∨r' x lo hi H Q):=by
 intro pins s σ H x v vl vu lo hi sl Q I rx hs pl pu q
 rcases q with q | q
 ·exact h pins s σ H x v vl vu lo hi sl Q I rx hs pl pu q
 ·exact h' pins s σ H x v vl vu lo hi sl Q I rx hs pl pu q
noncomputable def tSl (r:V→Option Int→Option Int→Hp→VK→Prop) (te:TE) (tl th:TO):TE:=fun σ H Q=>te σ H fun x H1=>tl σ H1 fun l H2=>th σ H2 fun u H3=>r x l u H3 Q
theorem pe_slice {r:V→Option Int→Option Int→Hp→VK→Prop} (hr:SlR X r) (he:PE X e te) (hl:PO X lo tl) (hu:PO X hi th):PE X (.Subscript e (.Slice lo hi none p2) pos) (tSl r te tl th):=by
 intro pins s σ H Q I h
 refine Subscript_ (thn (he pins s σ H _ I h) fun v s1 ⟨x,H1,I1,r1,q1⟩=>?_)
 refine wpAny_Slice (thn (hl pins s1 σ H1 _ I1 q1) fun vl s2 ⟨l,H2,I2,pl,q2⟩=>thn (hu pins s2 σ H2 _ I2 q2) fun vu s3 ⟨u,H3,I3,pu,q3⟩=>?_)
 rw [evalPart_none]
 refine wpAny_pure ?_
 have I4:Inv X pins σ H3 { s3 with heap:=s3.heap.push { cls:=.type "slice",data:=.fields #[vl,vu,.none] } }:=I3.kept (t':=s3.toks) fun b ob q=>Heap.get?_push_of_some _ q
 obtain ⟨T,id,hT,ht,hg⟩:=hr pins { s3 with heap:=s3.heap.push { cls:=.type "slice",data:=.fields #[vl,vu,.none] } } σ H3 x v vl vu l u s3.heap.objs.size Q I4 r1 (Heap.IsSliceOf.new ..) pl pu q3
 show wpAny (model X.prog X.w) X.A (subscriptTail e (.Slice lo hi none p2) v (.ref s3.heap.objs.size)) (EP X pins σ Q) X.xe { s3 with heap:=s3.heap.push { cls:=.type "slice",data:=.fields #[vl,vu,.none] } }
 exact tail_any (ops:=[.ref s3.heap.objs.size,v]) ht hT hg (by with_unfolding_all rfl)
noncomputable def cutV (xs:List V) (lo hi:Option Int):List V:=(xs.drop (HT.sIx xs.length 0 lo)).take (HT.sIx xs.length xs.length hi - HT.sIx xs.length 0 lo)
theorem cutV_length (xs:List V) (lo hi:Option Int):(cutV xs lo hi).length≤xs.length:=by
 unfold cutV
 rw [List.length_take,List.length_drop]
 omega
noncomputable def rSlT (K:PySem.W.Frag):V→Option Int→Option Int→Hp→VK→Prop:=fun x lo hi H Q=>∃ a xs,x = .ref a∧SqT K H a xs ∧
 ¬ (HT.sIx xs.length 0 lo=0∧HT.sIx xs.length xs.length hi=xs.length)∧∀ p,H p=none→Q (.ref p) (upd H p (.tup (cutV xs lo hi)))
theorem sl_tup:SlR X (rSlT X.K):=by
 intro pins s σ H x v vl vu lo hi sl Q I rx hs pl pu h
 obtain ⟨a,xs,rfl,hx,hw,q⟩:=h
 cases rx
 obtain ⟨its,r,ht,hz⟩:=I.tuple hx
 have hlen:its.toArray.size=xs.length:=by rw [List.size_toArray]; exact r.length.symm
 refine ⟨"tuple",_,PyProof.Rows.slot_tuple_getitem.lookup,ht.typeIs,?_⟩
 refine HT.getItem_tuple_cut ht hs pl pu (by rw [hlen]; exact hw) ?_ (by rw [hlen]; exact hz)
 rw [hlen]
 refine ⟨.ref s.heap.objs.size,_,I.laid (t':=s.toks) (o:=.tup (cutV xs lo hi)) (fun b ob q=>Heap.get?_push_of_some _ q) (Nat.le_refl _) ?_,rfl,q _ (I.hok.fresh (Nat.le_refl _))⟩
 exact ⟨Nat.le_trans (cutV_length xs lo hi) hz,_,(r.drop (HT.sIx xs.length 0 lo)).take (HT.sIx xs.length xs.length hi - HT.sIx xs.length 0 lo),IsTupN.new _ _⟩
noncomputable def rCatT (K:PySem.W.Frag):R2:=fun x y H Q=>∃ a b xs ys,x = .ref a∧y = .ref b∧SqT K H a xs∧SqT K H b ys∧xs≠[]∧xs.length + ys.length≤sizeLine ∧
 (ys=[]→Q (.ref a) H)∧(ys≠[]→∀ p,H p=none→Q (.ref p) (upd H p (.tup (xs ++ ys))))
theorem Vals.nil_iff {xs:List V} {us:List Value} (r:Vals xs us):us=[]↔xs=[]:=by
 cases r with
 | nil=>simp
 | cons _ _=>simp
theorem op_catT:OpR X (binaryOp .Add) (rCatT X.K):=by
 intro pins s σ H x y v u Q I rx ry h
 obtain ⟨a,b,xs,ys,rfl,rfl,ha,hb,hx,hz,q1,q2⟩:=h
 cases rx
 cases ry
 obtain ⟨its,r1,p1,_⟩:=I.tuple ha
 obtain ⟨its2,r2,p2,_⟩:=I.tuple hb
 refine HT.cat_tup p1 p2 (fun z=>hx (r1.nil_iff.mp z)) (fun z=>⟨.ref a,H,I,rfl,q1 (r2.nil_iff.mp z)⟩) (fun z=>?_) (by rw [← r1.length,← r2.length]; exact hz)
 refine ⟨.ref s.heap.objs.size,_,I.laid (t':=s.toks) (o:=.tup (xs ++ ys)) (fun b ob q=>Heap.get?_push_of_some _ q) (Nat.le_refl _) ?_,rfl,q2 (fun w=>z (r2.nil_iff.mpr w)) _ (I.hok.fresh (Nat.le_refl _))⟩
 exact ⟨by rw [List.length_append]; exact hz,_,r1.append r2,IsTupN.new _ _⟩
end
end L2
namespace L2
open PySem PySem.Spec PyProof.Rows
noncomputable def ixN (n:Nat) (i:Int):Option Nat:=if 0≤i then (if i < n then some i.toNat else none) else if -(n:Int)≤i then some (i + n).toNat else none
noncomputable def atI {α:Type} (xs:List α) (i:Int):Option α:=(ixN xs.length i).bind fun j=>xs[j]?
theorem ixN_seq {n:Nat} {i:Int} {j:Nat} (h:ixN n i=some j):seqIndex? i n=some j∧j < n∧-(n:Int)≤i∧i < n:=by
 unfold ixN at h
 by_cases h0:0≤i
 ·rw [if_pos h0] at h
  by_cases h1:i < n
  ·rw [if_pos h1] at h
   have e:i.toNat=j:=Option.some.inj h
   exact ⟨by rw [seqIndex_of h0 h1,e],by omega,by omega,h1⟩
  ·rw [if_neg h1] at h; cases h
 ·rw [if_neg h0] at h
  by_cases h1 : -(n:Int)≤i
  ·rw [if_pos h1] at h
   have e:(i + n).toNat=j:=Option.some.inj h
   exact ⟨by rw [seqIndex_neg (by omega) h1,e],by omega,h1,by omega⟩
  ·rw [if_neg h1] at h; cases h
theorem atI_get {α:Type} {xs:List α} {i:Int} {v:α} (h:atI xs i=some v):∃ j,seqIndex? i xs.length=some j∧xs[j]? = some v∧j < xs.length∧-(xs.length:Int)≤i∧i < xs.length:=by
 unfold atI at h
 cases e:ixN xs.length i with
 | none=>rw [e] at h; cases h
 | some j =>
  rw [e] at h
  obtain ⟨h1,h2,h3,h4⟩:=ixN_seq e
  exact ⟨j,h1,h,h2,h3,h4⟩
noncomputable def PlainIx (b:Expr):Prop:=∀ o i,subscripted b false o i=operate [o,i] (getItem o i)
noncomputable def IxR (X:Cx) (r:R2):Prop :=
 ∀ (value slice:Expr) (pins:List (Addr×Obj)) (s:Shared) (σ:St) (H:Hp) (x y:V) (v u:Value) (Q:VK),Inv X pins σ H s→RelV x v→RelV y u→r x y H Q →
  subscripted slice false v u=operate [v,u] (getItem v u)→wpAny (model X.prog X.w) X.A (subscriptTail value slice v u) (EP X pins σ Q) X.xe s
noncomputable def MtR (X:Cx) (id:String) (r:V→List V→Hp→VK→Prop):Prop :=
 ∀ (pins:List (Addr×Obj)) (s:Shared) (σ:St) (H:Hp) (x:V) (xs:List V) (v:Value) (us:List Value) (Q:VK),Inv X pins σ H s→RelV x v→Vals xs us→r x xs H Q →
  wpAny (model X.prog X.w) X.A (call (.builtin id) (v :: us)) (EP X pins σ Q) X.xe s
section
variable {X:Cx} {a b:Expr} {ta tb:TE} {pos:Pos}
theorem IxR.or {r r':R2} (h:IxR X r) (h':IxR X r'):IxR X (fun x y H Q=>r x y H Q∨r' x y H Q):=by
 intro value slice pins s σ H x y v u Q I rx ry q hs
 rcases q with q | q
 ·exact h value slice pins s σ H x y v u Q I rx ry q hs
 ·exact h' value slice pins s σ H x y v u Q I rx ry q hs
theorem MtR.or {id:String} {r r':V→List V→Hp→VK→Prop} (h:MtR X id r) (h':MtR X id r'):MtR X id (fun x xs H Q=>r x xs H Q∨r' x xs H Q):=by
 intro pins s σ H x xs v us Q I rx rs q
 rcases q with q | q
 ·exact h pins s σ H x xs v us Q I rx rs q
 ·exact h' pins s σ H x xs v us Q I rx rs q
theorem pe_ix {r:R2} (hr:IxR X r) (ha:PE X a ta) (hb:PE X b tb) (hs:PlainIx b):PE X (.Subscript a b pos) (tOp r ta tb):=by
 intro pins s σ H Q I h
 exact Subscript_ (binT ha hb I h fun v u s2 x y H2 I2 rx ry q=>hr a b pins s2 σ H2 x y v u Q I2 rx ry q (hs _ _))
noncomputable def rIxL (K:PySem.W.Frag):R2:=fun x y H Q=>∃ p xs i v,x = .ref p∧y = .int i∧SqL K H p xs∧atI xs i=some v∧Q v H
noncomputable def rIxT (K:PySem.W.Frag):R2:=fun x y H Q=>∃ p xs i v,x = .ref p∧y = .int i∧SqT K H p xs∧atI xs i=some v∧Q v H
noncomputable def rIxS:R2:=fun x y H Q=>∃ z i c,x = .str z∧y = .int i∧z.length≤sizeLine∧atI z.cps.toList i=some c∧Q (.str ⟨#[c]⟩) H
theorem ix_list:IxR X (rIxL X.K):=by
 intro value slice pins s σ H x y v u Q I rx ry h hs
 obtain ⟨p,xs,i,z,rfl,rfl,hq,he,q⟩:=h
 cases rx
 obtain ⟨t,rfl⟩:=ry
 obtain ⟨its,r,pl,hz⟩:=I.list hq
 obtain ⟨j,h1,h2,h3,h4,h5⟩:=atI_get he
 obtain ⟨w,ew,rw'⟩:=r.get h2
 have hl:=r.length
 have hn:=line63
 have fin:EP X pins σ Q w s:=⟨z,H,I,rw',q⟩
 by_cases h0:0≤i
 ·have hj:i.toNat=j:=by
   rw [seqIndex_of h0 h5] at h1
   exact Option.some.inj h1
  exact item_listR pl.isList h0 (by omega) (by rw [hj]; simpa using ew) fin hs
 ·have hj:(i + (its.toArray.size:Int)).toNat=j:=by
   rw [seqIndex_neg (by omega) h4] at h1
   rw [List.size_toArray,← hl]
   exact Option.some.inj h1
  exact subscriptTail_builtinR (x:=w) pl.isList.typeIs slot_list_getitem.lookup
   (wpAny_getItem_list_neg (Q:=fun r s'=>r=w∧EP X pins σ Q r s') pl.isList (by omega) (by rw [List.size_toArray] <;> omega) (by omega) (by rw [hj]; simpa using ew) ⟨rfl,fin⟩) hs
theorem ix_tup:IxR X (rIxT X.K):=by
 intro value slice pins s σ H x y v u Q I rx ry h hs
 obtain ⟨p,xs,i,z,rfl,rfl,hq,he,q⟩:=h
 cases rx
 obtain ⟨t,rfl⟩:=ry
 obtain ⟨its,r,pl,hz⟩:=I.tuple hq
 obtain ⟨j,h1,h2,h3,h4,h5⟩:=atI_get he
 obtain ⟨w,ew,rw'⟩:=r.get h2
 have hl:=r.length
 have hn:=line63
 have fin:EP X pins σ Q w s:=⟨z,H,I,rw',q⟩
 exact subscriptTail_builtinR (x:=w) pl.typeIs slot_tuple_getitem.lookup
  (getItem_tuple (j:=j) (Q:=fun r s'=>r=w∧EP X pins σ Q r s') pl (by omega) (by omega) (by rw [List.size_toArray,← hl]; exact h1) (by simpa using ew) ⟨rfl,fin⟩) hs
theorem ix_str:IxR X rIxS:=by
 intro value slice pins s σ H x y v u Q I rx ry h hs
 obtain ⟨z,i,c,rfl,rfl,hz,he,q⟩:=h
 obtain ⟨t,rfl⟩:=rx
 obtain ⟨t',rfl⟩:=ry
 obtain ⟨j,h1,h2,h3,h4,h5⟩:=atI_get he
 have hl:z.cps.toList.length=z.length:=by simp [Str.length]
 rw [hl] at h1 h4 h5
 have hn:=line63
 exact tail_any (typeIs_str s z t) slot_str_getitem.lookup (getItem_str (c:=c) (by
  have e1:decide (i < -(2 ^ 63:Int))=false:=decide_eq_false (by omega)
  have e2:decide (i ≥ 2 ^ 63)=false:=decide_eq_false (by omega)
  rw [e1,e2,Bool.or_false]) (by rw [h1]; simpa using h2) ⟨.str ⟨#[c]⟩,H,I.tok _,⟨_,rfl⟩,q⟩) hs
theorem mapSeq_set (its:List Value) (n j:Nat) (u:Value):Obj.mapSeq (·.setIfInBounds j u) { cls:=.type "list",data:=.seq its.toArray n }={ cls:=.type "list",data:=.seq (its.set j u).toArray n }:=by
 simp [Obj.mapSeq]
theorem Inv.lst {pins:List (Addr×Obj)} {σ:St} {H:Hp} {s:Shared} {p:Addr} {xs:List V} (I:Inv X pins σ H s) (h:H p=some (.lst xs)) :
  ∃ (its:List Value) (n:Nat),Vals xs its∧s.heap.get? p=some { cls:=.type "list",data:=.seq its.toArray n }∧xs.length≤sizeLine:=by
 obtain ⟨z,its,n,r,e⟩:=I.hok p _ h
 exact ⟨its,n,r,e,z⟩
theorem Inv.lstUpd {pins:List (Addr×Obj)} {σ:St} {H:Hp} {s:Shared} {p:Addr} {xs ys:List V} {its its':List Value} {n n':Nat} {f:Obj→Obj} (I:Inv X pins σ H s) (h:H p=some (.lst xs))
  (ho:s.heap.get? p=some { cls:=.type "list",data:=.seq its.toArray n }) (hf:f { cls:=.type "list",data:=.seq its.toArray n }={ cls:=.type "list",data:=.seq its'.toArray n' }) (r:Vals ys its') (hz:ys.length≤sizeLine) (t:Nat) :
  Inv X pins σ (upd H p (.lst ys)) { s with heap:=s.heap.update p f,toks:=t }:=by
 have e:(s.heap.update p f).get? p=some { cls:=.type "list",data:=.seq its'.toArray n' }:=by
  rw [Heap.get?_update_self f ho (by rw [hf] <;> rfl),hf]
 refine I.write (x:=p) (e:=p) (by rw [h]; trivial) (.inl rfl) (fun b u hb q=>(Heap.get?_update_other _ _ (Ne.symm hb)).trans q) ⟨_,e⟩ ?_
 exact ⟨hz,its',n',r,e⟩
noncomputable def rSetL:V→V→V→Hp→(Hp→Prop)→Prop:=fun o i v H Q=>∃ p xs k j,o = .ref p∧i = .int k∧H p=some (.lst xs)∧ixN xs.length k=some j∧Q (upd H p (.lst (xs.set j v)))
theorem set_list:PSet X rSetL:=by
 intro pins s σ H o i v ov iv u Q I ro ri rv h
 obtain ⟨p,xs,k,j,rfl,rfl,hp,hj,q⟩:=h
 cases ro
 obtain ⟨t,rfl⟩:=ri
 obtain ⟨its,n,r,ho,hz⟩:=I.lst hp
 obtain ⟨h1,h2,h3,h4⟩:=ixN_seq hj
 have hl:=r.length
 have hn:=line63
 have I':Inv X pins σ (upd H p (.lst (xs.set j v))) { s with heap:=s.heap.update p (Obj.mapSeq (·.setIfInBounds j u)) } :=
  I.lstUpd hp ho (mapSeq_set its n j u) (r.set rv j) (by rw [List.length_set]; exact hz) s.toks
 by_cases h0:0≤k
 ·have hk:k.toNat=j:=by
   rw [seqIndex_of h0 h4] at h1
   exact Option.some.inj h1
  exact PySem.W.ki_setAt ho h0 (by omega) (by rw [List.size_toArray,← hl]; exact h4) (by rw [hk]; exact ⟨_,I',q⟩)
 ·have hk:(k + (its.toArray.size:Int)).toNat=j:=by
   rw [seqIndex_neg (by omega) h3] at h1
   rw [List.size_toArray,← hl]
   exact Option.some.inj h1
  exact PySem.W.ki_setBack ho (by omega) (by rw [List.size_toArray,← hl]; exact h3) (by omega) (by rw [hk]; exact ⟨_,I',q⟩)
theorem slice_bounds (lo hi:Option Int) (n:Nat):(sliceBounds lo hi none n).1=((HT.sIx n 0 lo:Nat):Int)∧(sliceBounds lo hi none n).2.1=((HT.sIx n n hi:Nat):Int)∧(sliceBounds lo hi none n).2.2=1:=by
 refine ⟨?_,?_,rfl⟩
 ·cases lo with
  | none=>simp [sliceBounds,HT.sIx]
  | some i =>
   simp only [sliceBounds,HT.sIx,Option.getD_none,show (1:Int) > 0 by decide,if_true]
   by_cases h:i < 0
   ·simp only [h,if_true] <;> omega
   ·simp only [h,if_false] <;> omega
 ·cases hi with
  | none=>simp [sliceBounds,HT.sIx]
  | some i =>
   simp only [sliceBounds,HT.sIx,Option.getD_none,show (1:Int) > 0 by decide,if_true]
   by_cases h:i < 0
   ·simp only [h,if_true] <;> omega
   ·simp only [h,if_false] <;> omega
theorem slicePick_cut (its:List Value) (lo hi:Option Int):slicePick its.toArray lo hi none=((its.drop (HT.sIx its.length 0 lo)).take (HT.sIx its.length its.length hi - HT.sIx its.length 0 lo)).toArray:=by
 obtain ⟨h1,h2,h3⟩:=slice_bounds lo hi its.toArray.size
 unfold slicePick
 rw [h1,h2,h3]
 simp only [sliceRange_one,pick_run,List.size_toArray] <;> rfl
noncomputable def rSlL (K:PySem.W.Frag):V→Option Int→Option Int→Hp→VK→Prop:=fun x lo hi H Q=>∃ a xs,x = .ref a∧SqL K H a xs∧∀ p,H p=none→Q (.ref p) (upd H p (.lst (cutV xs lo hi)))
theorem sl_list:SlR X (rSlL X.K):=by
 intro pins s σ H x v vl vu lo hi sl Q I rx hs pl pu h
 obtain ⟨a,xs,rfl,hx,q⟩:=h
 cases rx
 obtain ⟨its,r,ht,hz⟩:=I.list hx
 have hlen:=r.length
 refine ⟨"list",_,slot_list_getitem.lookup,ht.isList.typeIs,?_⟩
 refine wpAny_getItem_list_slice ht.isList hs pl pu .none (by simp) ?_ (by rw [List.size_toArray] <;> omega)
 rw [slicePick_cut,← hlen]
 refine ⟨.ref s.heap.objs.size,_,I.laid (t':=s.toks) (o:=.lst (cutV xs lo hi)) (fun b ob q=>Heap.get?_push_of_some _ q) (Nat.le_refl _) ?_,rfl,q _ (I.hok.fresh (Nat.le_refl _))⟩
 exact ⟨Nat.le_trans (cutV_length xs lo hi) hz,_,0,(r.drop (HT.sIx xs.length 0 lo)).take (HT.sIx xs.length xs.length hi - HT.sIx xs.length 0 lo),Heap.get?_push_size _ rfl⟩
theorem CallR.or {f:Value} {r r':List V→Hp→VK→Prop} (h:CallR X f r) (h':CallR X f r'):CallR X f (fun xs H Q=>r xs H Q∨r' xs H Q):=by
 intro pins s σ H xs us Q I rs q
 rcases q with q | q
 ·exact h pins s σ H xs us Q I rs q
 ·exact h' pins s σ H xs us Q I rs q
noncomputable def tyV (K:PySem.W.Frag) (T:String) (x:V) (H:Hp):Prop:=match x with
 | .str _=>T = "str"
 | .int _=>T = "int"
 | .ref p=>(T = "list"∧∃ xs,SqL K H p xs)∨(T = "tuple"∧((∃ o,K.lookup p=some o∧o.cls = .type "tuple"∧o.dict=none)∨∃ xs,H p=some (.tup xs))) ∨
   (T = "dict"∧((∃ kvs,H p=some (.dK kvs))∨∃ kvs,H p=some (.dT kvs)))∨(T = "set"∧∃ S n,H p=some (.set S n))
 | _=>False
theorem tyV_is {pins:List (Addr×Obj)} {σ:St} {H:Hp} {s:Shared} {T:String} {x:V} {v:Value} (I:Inv X pins σ H s) (r:RelV x v) (ty:tyV X.K T x H) :
  s.TypeIs v T∧∀ a,v = .ref a→∃ ob,s.heap.get? a=some ob∧ob.dict=none:=by
 cases x with
 | str z =>
  obtain ⟨t,rfl⟩:=r
  cases (show T = "str" from ty)
  exact ⟨typeIs_str s z t,fun _ e=>nomatch e⟩
 | int i =>
  obtain ⟨t,rfl⟩:=r
  cases (show T = "int" from ty)
  exact ⟨typeIs_int s i t,fun _ e=>nomatch e⟩
 | ref p =>
  cases r
  rcases ty with ⟨rfl,xs,hq⟩ | ⟨rfl,⟨o,hk,hc,hd⟩ | ⟨xs,hk⟩⟩ | ⟨rfl,hk⟩ | ⟨rfl,S,n,hk⟩
  ·obtain ⟨its,_,pl,_⟩:=I.list hq
   refine ⟨pl.isList.typeIs,fun a e=>?_⟩
   cases e
   obtain ⟨o,n,e,c,hd,_⟩:=pl
   exact ⟨o,e,hd⟩
  ·refine ⟨⟨o,I.kIn p o hk,hc⟩,fun a e=>?_⟩
   cases e
   exact ⟨o,I.kIn _ o hk,hd⟩
  ·obtain ⟨_,_,_,o,e,c,_,_,hd⟩:=I.hok p _ hk
   refine ⟨⟨o,e,c⟩,fun a e2=>?_⟩
   cases e2
   exact ⟨o,e,hd⟩
  ·have z:∃ o,s.heap.get? p=some o∧o.ExactDict:=by
    rcases hk with ⟨kvs,hk⟩ | ⟨kvs,hk⟩
    ·obtain ⟨_,_,_,_,o,_,_,e,ex,_⟩:=I.hok p _ hk
     exact ⟨o,e,ex⟩
    ·obtain ⟨_,_,_,_,o,_,_,e,ex,_⟩:=I.hok p _ hk
     exact ⟨o,e,ex⟩
   obtain ⟨o,e,ex⟩:=z
   refine ⟨⟨o,e,ex.1⟩,fun a e2=>?_⟩
   cases e2
   exact ⟨o,e,ex.2.1⟩
  ·obtain ⟨o,_,_,_,e,ex,_⟩:=I.hok p _ hk
   refine ⟨⟨o,e,ex.1⟩,fun a e2=>?_⟩
   cases e2
   exact ⟨o,e,ex.2.1⟩
 | _=>exact False.elim ty
noncomputable def tBM (K:PySem.W.Frag) (T:String) (r:V→List V→Hp→VK→Prop) (to:TE) (t:TA):TE:=fun σ H Q=>to σ H fun x H1=>tyV K T x H1∧t σ H1 fun xs H2=>r x xs H2 Q
variable {o e:Expr} {es:List Expr} {to:TE} {t:TA} {name:Str} {apos cpos:Pos} {T id:String} {r:V→List V→Hp→VK→Prop}
theorem pe_bm (pa:PlainAttrs T) (slot:Slot T name id) (hty:typeOf (.builtin id)=pure (.type "method_descriptor")) (hm:MtR X id r) (ho:PE X o to) (ha:PA X (e :: es) t)
  (hbase:attributeBase o name X.env (eval o X.env)=eval o X.env:=by rfl)
  (hfew:((backTo cpos (starEach (e :: es) X.env)).all (fun x=>!x.1) && (backToKw cpos (keywordEach [] X.env)).all (fun x=>x.1.isSome)
   && decide ((e :: es).length + ([]:List Keyword).length + (if ([]:List Keyword).isEmpty then 0 else 1) < 30))=true:=by rfl)
  (hline:(apos.endLine == cpos.line)=true:=by rfl) (hs:starEach (e :: es) X.env=(false,eval e X.env) :: starEach es X.env:=by rfl) (hplain:(backTo cpos (starEach es X.env)).any (·.1)=false:=by rfl) :
  PE X (.Call (.Attribute o name apos) (e :: es) [] cpos) (tBM X.K T r to t):=by
 intro pins s σ H Q I h
 refine wpAny_Call_method_late hbase hfew hline rfl (thn (ho pins s σ H _ I h) fun v s1 ⟨x,H1,I1,r1,ty,q1⟩=>?_)
 obtain ⟨h1,h2⟩:=tyV_is I1 r1 ty
 refine ⟨T,id,pa,slot,hty,h1,h2,?_⟩
 have hA:=ha cpos pins s1 σ H1 _ I1 q1
 rw [hs] at hA ⊢
 refine Calls.callWith_builtin (by show (false || (backTo cpos (starEach es X.env)).any (·.1))=false; rw [hplain] <;> rfl) (Calls.evalArgs_plain ?_)
 exact thn hA fun us s2 ⟨vs,H2,I2,r2,q2⟩=>hm pins s2 σ H2 x vs v us Q I2 r1 r2 q2
/- xs.append(e),list.index on a module's tuple .. are MtR facts of 06m -/
end
end L2
namespace L2
open PySem PySem.Spec PyProof.Rows
noncomputable def MtM (X:Cx) (id:String) (r:V→List V→Hp→VK→Prop):Prop :=
 ∀ (pins:List (Addr×Obj)) (s:Shared) (σ:St) (H:Hp) (x:V) (xs:List V) (v:Value) (us:List Value) (Q:VK),Inv X pins σ H s→RelV x v→Vals xs us→r x xs H Q →
  wpAny (model X.prog X.w) X.A (call (.builtin id) (v :: us)) (EP X pins σ Q) X.xe s
theorem Vals.one:∀ {x:V} {us:List Value},Vals [x] us→∃ u,us=[u]∧RelV x u
 | _,_,.cons r .nil=>⟨_,rfl,r⟩
theorem Vals.two:∀ {x y:V} {us:List Value},Vals [x,y] us→∃ u v,us=[u,v]∧RelV x u∧RelV y v
 | _,_,_,.cons r (.cons q .nil)=>⟨_,_,rfl,r,q⟩
theorem Vals.rep {xs:List V} {us:List Value} (h:Vals xs us):∀ k:Nat,Vals (List.replicate k xs).flatten (List.replicate k us).flatten
 | 0=>.nil
 | k + 1=>by
  rw [List.replicate_succ,List.replicate_succ,List.flatten_cons,List.flatten_cons]
  exact Vals.append h (Vals.rep h k)
section
variable {X:Cx} {pins:List (Addr×Obj)} {σ:St} {H:Hp} {s:Shared} {l b:Addr} {xs ys zs:List V}
theorem Inv.lset {its its':List Value} {n:Nat} {f:Array Value→Array Value} {t':Nat} (I:Inv X pins σ H s) (hH:H l=some (.lst xs))
  (e:s.heap.get? l=some { cls:=.type "list",data:=.seq its.toArray n }) (hf:f its.toArray=its'.toArray) (hv:Vals ys its') (hz:ys.length≤sizeLine) :
  Inv X pins σ (upd H l (.lst ys)) { s with heap:=s.heap.update l (Obj.mapSeq f),toks:=t' }:=by
 have q:=PySem.IsL.update e f
 rw [hf] at q
 refine I.write (x:=l) (e:=l) (by rw [hH]; exact trivial) (.inl rfl) (fun b' u hb hu=>(Heap.get?_update_other s.heap (Obj.mapSeq f) (Ne.symm hb)).trans hu) ⟨_,q⟩ ?_
 exact ⟨hz,its',_,hv,q⟩
theorem Inv.lnew {its:List Value} {t':Nat} (I:Inv X pins σ H s) (hv:Vals ys its) (hz:ys.length≤sizeLine) :
  Inv X pins σ (upd H s.heap.objs.size (.lst ys)) { s with heap:=s.heap.push { cls:=.type "list",data:=.seq its.toArray },toks:=t' } :=
 I.laid (fun _ _ q=>Heap.get?_push_of_some _ q) (Nat.le_refl _) ⟨hz,its,0,hv,Heap.get?_push_size _ rfl⟩
theorem Inv.fresh (I:Inv X pins σ H s):H s.heap.objs.size=none:=I.hok.fresh (Nat.le_refl _)
theorem Inv.lstM (I:Inv X pins σ H s) (hH:H l=some (.lst xs)):xs.length≤sizeLine∧∃ (its:List Value) (n:Nat),Vals xs its∧xs.length=its.length∧s.heap.get? l=some { cls:=.type "list",data:=.seq its.toArray n }:=by
 obtain ⟨z,its,n,r,e⟩:=I.hok l _ hH
 exact ⟨z,its,n,r,r.length,e⟩
end
section
variable {X:Cx}
noncomputable def rAppend:V→List V→Hp→VK→Prop:=fun x vs H Q=>∃ l xs y,x = .ref l∧vs=[y]∧H l=some (.lst xs)∧xs.length < sizeLine∧Q .non (upd H l (.lst (xs ++ [y])))
theorem mt_append:MtM X "list.append" rAppend:=by
 intro pins s σ H x vs v us Q I rx rv h
 obtain ⟨l,xs,y,rfl,rfl,hH,hz,q⟩:=h
 cases rx
 obtain ⟨u,rfl,ru⟩:=rv.one
 obtain ⟨z,its,n,r,hl,e⟩:=I.lstM hH
 refine call_meets F.slot_list_append ⟨_,e,rfl⟩ F.entry_list_append (F.args_list_append_2 _ _) (PySem.list_append l its.toArray n u (by rw [List.size_toArray]; omega)) ⟨e,?_⟩
 refine ⟨.non,_,I.lset (its':=its ++ [u]) hH e (by simp) (r.append (.cons ru .nil)) ?_,rfl,q⟩
 rw [List.length_append,List.length_singleton]
 omega
noncomputable def rCat:R2:=fun x y H Q=>∃ l b xs zs,x = .ref l∧y = .ref b∧H l=some (.lst xs)∧H b=some (.lst zs)∧xs.length + zs.length≤sizeLine∧∀ p,H p=none→Q (.ref p) (upd H p (.lst (xs ++ zs)))
theorem op_cat:OpR X (binaryOp .Add) rCat:=by
 intro pins s σ H x y v u Q I rx ry h
 obtain ⟨l,b,xs,zs,rfl,rfl,hH,hB,hz,q⟩:=h
 cases rx
 cases ry
 obtain ⟨z,its,n,r,hl,e⟩:=I.lstM hH
 obtain ⟨z2,its2,n2,r2,hl2,e2⟩:=I.lstM hB
 refine PySem.P.add_list e e2 ?_ (by rw [List.size_toArray,List.size_toArray]; omega)
 have ea:its.toArray ++ its2.toArray=(its ++ its2).toArray:=by simp
 rw [ea]
 exact ⟨.ref _,_,I.lnew (t':=s.toks) (r.append r2) (by rw [List.length_append]; omega),rfl,q _ I.fresh⟩
end
section
variable {prog:Program} {w:World} {A:Around} {E:Value→Shared→Prop} {s:Shared}
end
section
variable {X:Cx}
end
end L2
namespace Att
open PySem PySem.W PySem.Calls PyProof.Rows
theorem ints_of_wellAll {P:Params} {h:Heap}:∀ (ns:List Int) (vs:List Value),WellAll P h vs (ns.map WData.int)→IntsAre vs ns:=by
 intro ns
 induction ns with
 | nil =>
  intro vs w
  rw [List.map_nil] at w
  cases w
  exact .nil
 | cons n ns ih =>
  intro vs w
  rw [List.map_cons] at w
  cases w with
  | cons a b =>
   cases a
   exact .cons _ _ (ih _ b)
theorem script_of {l:OpenLaw} {n:Nat} (hn:l.most=some n) {P:Params} {h:Heap} {args:List WData} {vals:List Value}
  (hpre:l.row.toRowW.claim.pre args=true) (hwl:WellAll P h vals args) :
  ∃ a vs ns,vals=[Value.ref a]∧args=[WData.list (ns.map WData.int)]∧h.get? a=some { cls:=.type "list",data:=.seq vs.toArray }∧IntsAre vs ns∧ns.length≤n:=by
 have hsh:WShape.hasAll [] args [.list .int]=true:=(pre_splitW hpre).1
 have hc:l.pre.holds [] { args:=args }=true:=(pre_splitW hpre).2
 obtain ⟨d,r,rfl,h1,h2⟩:=hasAllW_cons hsh
 obtain rfl:=hasAllW_nil h2
 obtain ⟨xs,rfl,h3⟩:=hasW_list h1
 obtain ⟨ns,rfl⟩:=items_int h3
 have hlen:ns.length≤n:=by
  unfold OpenLaw.pre at hc
  have h4:(WTm.not (.lt (.lit (.int (n:Int))) (.len (.arg 0)))).holds [] { args:=[.list (ns.map .int)] }=true:=by
   have h4:=(holds_andW hc).1
   rw [hn] at h4
   exact h4
  have h5:=condW_of h4 (w_not (w_lt w_lit (w_len_list (w_arg rfl))))
  rw [List.length_map] at h5
  refine Nat.le_of_not_lt fun q=>?_
  have q':(n:Int) < ((ns.length:Nat):Int):=by omega
  first
   | (rw [decide_eq_true q'] at h5; exact absurd h5 (by decide))
   | (simp at h5; omega)
 cases hwl with
 | cons w1 w2 =>
  cases w2
  cases w1 with
  | list ho hall=>exact ⟨_,_,ns,rfl,rfl,ho,ints_of_wellAll ns _ hall,hlen⟩
theorem post_true (l:OpenLaw) (args:List WData):l.row.toRowW.claim.post args (.bool true) args=true :=
 postW_of (r:=l.row.toRowW) (X:=(true == true))
  (show WShape.has [] (.bool true) .bool=true by first | rfl | decide | simp [WShape.has,WShape.arms,WShape.armsAll])
  (show (WTm.eq .res (.lit (.bool true))).value [] { args:=args,res:=some (.bool true),after:=args }=some (.bool (true == true)) from w_eq_bool (w_res rfl) w_lit) rfl
theorem attach_call {l:OpenLaw} {n:Nat} {q:Program} {loose:List Str} {XP:(Str→Option Value)→Heap→Prop} {YP:World→Heap→Prop} {d:DefRec}
  (hn:l.most=some n) (hdf:d.params.defaults=[])
  (call:∀ (w:World) (s₀ s₁:Shared) (mg mb:Str→Option Value) (fa:Addr) (o:Obj) (pm cd doc:Value) (a:Addr) (vs:List Value) (ns:List Int),
   Ground q loose [] XP w s₀ mg mb s₁.heap→YP w s₁.heap →
   s₁.heap.get? fa=some o→o.data = .func (docDef d.name d.params d.body d.scope pm cd doc)→s₁.heap.CodeRec cd d.name→mg d.name=some (.ref fa) →
   s₁.heap.get? a=some { cls:=.type "list",data:=.seq vs.toArray }→IntsAre vs ns→ns.length≤n→s₁.gens = #[] →
   codeAny (model l.prog w) callerA (.call (.ref fa) ⟨[.ref a],[]⟩) (fun r s'=>r = .ok (.ret (.bool true))∧OldK s₁.heap s'.heap∧s'.os=s₁.os∧AllBare s'.gens) s₁) :
  WalkO q loose XP YP l.row.toRowW d [] (fun f vs=>PySem.call f vs):=by
 intro w s₀ s₁ mg mb G Y fa o pm cd doc dV kV ho hd hcd hD hmg hg args vals as hpre hlay hrd hwl hlo
 obtain rfl:dV = .none:=Dflts.none hD hdf
 obtain rfl:kV = .none:=Dflts.noKw hD
 obtain ⟨a,vs,ns,rfl,rfl,hobj,hints,hlen⟩:=script_of hn hpre hwl
 refine enter_call (codeAny_mono (call w s₀ s₁ mg mb fa o pm cd doc a vs ns G Y ho (fd_plain hd) hcd hmg hobj hints hlen hg) fun r s' hq=>?_)
 obtain ⟨rfl,h2,h3,h4⟩:=hq
 exact ⟨.inl ⟨.bool true,.bool true,[],rfl,fun _=>rfl,.bool true,post_true l _,fun _=>⟨List.Pairwise.nil,fun _ hm=>(nomatch hm)⟩⟩,h2,h3,h4⟩
section
variable {prog:Program} {w:World} {A:Around} {E:Value→Shared→Prop} {s:Shared} {K:Frag}
noncomputable def ledger (h:Heap) (L d:Addr):List (Addr×Obj):=(List.range h.objs.size).filterMap fun a=>if a=L∨a=d then none else (h.get? a).map fun o=>(a,o)
end
end Att
namespace L2
open PySem PySem.Spec PyProof.Rows
theorem vals_ints:∀ {vs:List Value} {ns:List Int},IntsAre vs ns→Vals (ns.map V.int) vs
 | _,_,.nil=>.nil
 | _,_,.cons n t h=>.cons ⟨t,rfl⟩ (vals_ints h)
noncomputable def Only (H:Hp):Prop:=∀ b,H b=none∨∃ o xs,H b=some (.frz o (.lst xs))
theorem law_call {P:Program} {w:World} {K:PySem.W.Frag} {mg mb:Str→Option Value} {CX:CXT} {k:Nat} {fa a:Addr} {fd:FuncData} {x:Str} {sp:Sp} {s₁:Shared} {vs:List Value} {ns:List Int}
  (KX:K.In s₁.heap) (hns:s₁.heap.Ns mainGlobals mg) (hb:s₁.heap.Ns builtinsNs mb) (hbb:∀ x:Str,x≠"__name__"→mb x=bootBuiltins x) (hlim:s₁.heap.NoLimit) (hsy:∃ mm,s₁.heap.Ns sysModules mm) (hg:s₁.gens = #[])
  (ha:s₁.heap.get? a=some { cls:=.type "list",data:=.seq vs.toArray }) (hi:IntsAre vs ns) (hl:ns.length≤sizeLine) (hr:Room k callerA)
  (F:∀ base:Heap,K.In base→base.Ns mainGlobals mg→FnOk P w K mg base CX k fa fd [x] sp) (hbind:∀ (s:Shared) (u:Value),BindsTo s fd ⟨[u],[]⟩ [(x,u)])
  (hsp:∀ H:Hp,Only H→SqL K H a (ns.map V.int)→sp [.ref a] H (fun v _=>v = .bl true) fun _ _ _=>False)
  (hCX:∀ H e s',CX [] H s₁ (fun _ _ _=>False) e s'→False) :
  codeAny (model P w) callerA (.call (.ref fa) ⟨[.ref a],[]⟩) (fun r s'=>r = .ok (.ret (.bool true))∧OldK s₁.heap s'.heap∧s'.os=s₁.os∧AllBare s'.gens) s₁:=by
 have rv:=vals_ints hi
 have lenV:=hi.length
 have core:∀ H:Hp,Only H→SqL K H a (ns.map V.int)→HOk P w H s₁.heap→(∀ b,H b≠none→b=a)→(H a≠none→K.lookup a=none) →
   codeAny (model P w) callerA (.call (.ref fa) ⟨[.ref a],[]⟩) (fun r s'=>r = .ok (.ret (.bool true))∧OldK s₁.heap s'.heap∧s'.os=s₁.os∧AllBare s'.gens) s₁:=by
  intro H hO hS hok hA hK
  have base_of:∀ {b:Addr} {o:Obj},s₁.heap.get? b=some o→H b=none→(hidT s₁.heap H).get? b=some o:=fun e n=>hidT_get e n
  have noA:∀ {b:Addr} {o:Obj} {es:Array DictEntry} {ep:Nat},s₁.heap.get? b=some o→o.data = .dict es ep→H b=none:=fun {b o es ep} e d=>by
   cases q:H b with
   | none=>rfl
   | some u =>
    have e':b=a:=hA b (by rw [q]; simp)
    subst e'
    rw [ha] at e; cases e
    have d':Data.seq vs.toArray _=Data.dict es ep:=d
    cases d'
  have nsK:∀ {b:Addr} {m:Str→Option Value},s₁.heap.Ns b m→(hidT s₁.heap H).Ns b m:=fun {b m} ⟨o,es,ep,e,d,r⟩=>⟨o,es,ep,base_of e (noA e d),d,r⟩
  have hKb:K.In (hidT s₁.heap H):=fun b o e=>base_of (KX b o e) (by
   cases q:H b with
   | none=>rfl
   | some u =>
    have e':b=a:=hA b (by rw [q]; simp)
    subst e'
    rw [hK (by rw [q]; simp)] at e; cases e)
  have hM:Mod K mg (hidT s₁.heap H):=⟨hKb,nsK hns,⟨mb,nsK hb,hbb⟩,let ⟨mc,h1,h2⟩:=hlim; ⟨mc,nsK h1,h2⟩,let ⟨mm,h1⟩:=hsy; ⟨mm,nsK h1⟩⟩
  have e0:Env0 P w K mg (hidT s₁.heap H) callerA [] s₁ H:=⟨rfl,hM,fun b o e=>of_hidT e,Nat.le_of_eq (hidT_size _ _),trivial,fun b hb=>absurd (show b∈([]:List Addr) from hb) (by simp),hok,.of_eq hg,fun v q=>nomatch q⟩
  refine codeAny_mono ((F _ hKb (nsK hns)).run callerA [] s₁ H ⟨[.ref a],[]⟩ [.ref a] [.ref a] _ _ hr e0 (hbind s₁ (.ref a)) (.cons rfl .nil) (hsp H hO hS)) fun r s' h=>?_
  cases r with
  | error e=>exact (hCX H e s' h).elim
  | ok fl =>
   cases fl with
   | next=>exact False.elim h
   | brk=>exact False.elim h
   | cont=>exact False.elim h
   | ret u =>
    obtain ⟨v,H',os,bare,un,hok',r',q⟩:=h
    have q':v = .bl true:=q
    subst q'
    obtain rfl:u=Value.bool true:=r'
    refine ⟨rfl,OldK.of_keep fun b o e=>?_,os,bare⟩
    cases q:H b with
    | none=>exact un.keep b o e q (by intro z; exact absurd (show b∈([]:List Addr) from z) (by simp)) (by simp)
    | some u =>
     rcases hO b with z | ⟨ob,xs,z⟩
     ·rw [q] at z; cases z
     ·have z2:=un.frzs b ob _ z
      obtain ⟨e1,_⟩:=hok b _ z
      obtain ⟨e2,_⟩:=hok' b _ z2
      rw [e] at e1; cases e1
      exact e2
 cases hk:K.lookup a with
 | some o =>
  have e:=KX a o hk
  rw [ha] at e
  cases e
  refine core (fun _=>none) (fun _=>.inl rfl) (.inr ⟨_,vs.toArray,_,hk,rfl,rfl,rfl,by rw [List.size_toArray,lenV]; exact hl,by simpa using rv⟩) (fun b u z=>by have z':(none:Option HO)=some u:=z; cases z') (fun b z=>absurd rfl z) fun z=>absurd rfl z
 | none =>
  refine core (fun b=>if b=a then some (.frz { cls:=.type "list",data:=.seq vs.toArray } (.lst (ns.map V.int))) else none) (fun b=>?_) (.inl (.inr ⟨{ cls:=.type "list",data:=.seq vs.toArray },if_pos rfl⟩)) (fun b u z=>?_) (fun b z=>?_) fun _=>hk
  ·by_cases hb:b=a
   ·exact .inr ⟨_,_,if_pos hb⟩
   ·exact .inl (if_neg hb)
  ·by_cases hb:b=a
   ·have z':=(if_pos hb).symm.trans z
    cases z'
    subst hb
    exact ⟨ha,by rw [List.length_map]; exact hl,vs,_,rv,ha⟩
   ·have z':=(if_neg hb).symm.trans z
    cases z'
  ·by_cases hb:b=a
   ·exact hb
   ·exact absurd (if_neg hb) z
end L2
namespace L2
open PySem PySem.Spec PyProof.Rows
noncomputable abbrev KOf {K:PySem.W.Frag} {h:Heap} (_:K.In h):PySem.W.Frag:=K
theorem walk_of {l:PySem.W.OpenLaw} {n k:Nat} {q:Program} {loose:List Str} {XP:(Str→Option Value)→Heap→Prop} {YP:World→Heap→Prop} {d:DefRec} {K:Params→PySem.W.Frag} {CX:World→CXT} {sp:World→Sp} {x:Str}
  (hI:importsNone q=true) (hn:l.most=some n) (hn2:n≤sizeLine) (hdf:d.params.defaults=[]) (hr:Room k callerA)
  (hY:∀ (w:World) (h:Heap),YP w h→(K w.params).In h)
  (F:∀ (w:World) (mg:Str→Option Value) (fa:Addr) (h:Heap),(K w.params).In h→h.Ns mainGlobals mg→mg d.name=some (.ref fa) →
   ∃ fd:FuncData,(∀ (s:Shared) (u:Value),BindsTo s fd ⟨[u],[]⟩ [(x,u)]) ∧
    ∀ base:Heap,(K w.params).In base→base.Ns mainGlobals mg→FnOk l.prog w (K w.params) mg base (CX w) k fa fd [x] (sp w))
  (hsp:∀ (w:World) (H:Hp) (a:Addr) (ns:List Int),ns.length≤n→Only H→SqL (K w.params) H a (ns.map V.int)→sp w [.ref a] H (fun v _=>v = .bl true) fun _ _ _=>False)
  (hCX:∀ (w:World) (H:Hp) (s:Shared) (e:Value) (s':Shared),CX w [] H s (fun _ _ _=>False) e s'→False) :
  PySem.W.WalkO q loose XP YP l.row.toRowW d [] (fun f vs=>PySem.call f vs):=by
 refine Att.attach_call hn hdf fun w s₀ s₁ mg mb fa o pm cd doc a vs ns G Y ho hd hcd hmg hobj hints hlen hg=>?_
 have KX:=hY w _ Y
 obtain ⟨fd,hb,hF⟩:=F w mg fa _ KX G.T.g hmg
 exact law_call KX G.T.g G.T.b G.T.builtins G.T.nolimit (let ⟨mm,z,_⟩:=(G.T.seer hI).mods; ⟨mm,z⟩) hg hobj hints (Nat.le_trans hlen hn2) hr hF hb (fun H hO hS=>hsp w H a ns hlen hO hS) fun H e s'=>hCX w H s₁ e s'
end L2
/- THE LAST THEOREM (shape; LID, My.* are yours):
   My.Adr: a structure of the addresses that your layer names (classes, functions); My.Txt K t: a structure (Prop) of the equations over K;
   My.txt_mk : {K} {implicit addresses ..} (e1 : nsIn K mainGlobals "law" = some (some (.ref f))) (e2 : K.lookup f = some ⟨oc, od, .func (fnOf "law" "law" params body scope dV kV doc pm an cdv ct), sl⟩) (e3 : codeIn K cdv "law" = true) .. : ∃ t, My.Txt K t
set_option maxRecDepth 100000 in
set_option maxHeartbeats 0 in
theorem PySem.Challenge.cw_LID_holds : PySem.Challenge.rw_LID.Holds := by
 w_on; o_law; k_head; (case hw=>w_witness2)
 k_fill
 refine L2.walk_of (l:=PySem.Challenge.rw_LID) (n:=63) (k:=40) (x:="script") (CX:=fun w=>..) (sp:=fun _=>My.sp_law) rfl (by decide) rfl ⟨rfl,by decide,by decide⟩ (fun w h Y=>PySem.W.kIn_of Y) ?F ?S ?C
 case F =>
  intro w mg fa h KX G hmg
  have T:∃ t,My.Txt (L2.KOf KX) t:=by
   dsimp only [L2.KOf] -- K must stand as «<heap const> w.params» for k_is
   refine' My.txt_mk ?e1 ?e2 ?e3 ..
   (case e1=>PySem.W.k_is) -- in the order: a name -> its address -> its object -> its parts
   (case e2=>PySem.W.k_is)
   ..
  obtain ⟨t,T⟩:=T
  have e0:=hmg.symm.trans (PySem.W.mg_of KX G T.law)
  cases e0 -- fa is the law's own address
  exact ⟨_,fun s u=>.of_eq rfl,fun base kb nb=>My.law_fn T kb nb⟩ -- if «.of_eq rfl» comes too early: refine' ⟨_,?b,fun base kb nb=>My.law_fn T kb nb⟩; exact fun s u=>.of_eq rfl
 case S=>exact fun w H a ns hl hO hS=>..
 case C=>exact ..
(the tactic k_is has no namespace: write k_is) -/
namespace L2
open PySem PySem.Spec PyProof.Rows
noncomputable def inClass (s:Stmt) (j:Nat):Stmt:=match s with
 | .ClassDef _ _ _ body _ _ _ _ _ _ _=>body.getD j (.Pass ⟨0,0,0,0⟩)
 | _=>.Pass ⟨0,0,0,0⟩
noncomputable def defArgs (s:Stmt):Arguments:=match s with
 | .FunctionDef _ a _ _ _ _ _ _ _ _=>a
 | _=>{ posonlyargs:=[],args:=[],vararg:=none,kwonlyargs:=[],kw_defaults:=[],kwarg:=none,defaults:=[] }
noncomputable def defBody (s:Stmt):List Stmt:=match s with
 | .FunctionDef _ _ b _ _ _ _ _ _ _=>b
 | _=>[]
noncomputable def defScope (s:Stmt):Scope:=match s with
 | .FunctionDef _ _ _ _ _ _ sc _ _ _=>sc
 | _=>{ kind:=.function,names:=[],isGenerator:=false,isCoroutine:=false }
noncomputable abbrev CX0:CXT:=fun _ _ _ _ _ _=>False
noncomputable abbrev E0:XK:=fun _ _ _=>False
structure Fun (K:PySem.W.Frag) (x qual:Str) (st:Stmt) (f:Addr) (fd:FuncData):Prop where
 ex:∃ (oc:Value) (od:Option Addr) (kV doc pm:Value) (an:Option Addr) (cdv ct:Value) (osl:Array (Option Value)),
  fd=PySem.W.fnOf x qual (defArgs st) (defBody st) (defScope st) .none kV doc pm an cdv ct∧K.lookup f=some ⟨oc,od,.func fd,osl⟩∧PySem.W.codeIn K cdv qual=true
 kp:PySem.W.keepIn K (.ref f)=true
section
variable {P:Program} {w:World} {K:PySem.W.Frag} {mg:Str→Option Value} {base:Heap}
theorem Fun.ok {x qual:Str} {st:Stmt} {f:Addr} {fd:FuncData} {N ps:List Str} {k:Nat} {sp:Sp} (F:Fun K x qual st f fd) (S:FnScope N ps (defScope st)) (len:∀ vs H Q E,sp vs H Q E→vs.length=ps.length)
  (hbody:∀ (cdv:Value) (A:Around) (outer:List Env) (s:Shared) (H:Hp) (vs:List V) (Q:VK) (E:XK),Room k (A.deeper (envOfC qual (defScope st) s.heap.objs.size f cdv))→sp vs H Q E →
   ∃ t,PSs (cxOf CX0 P w K mg base N qual (defScope st) f cdv A outer s H E).nox (defBody st) t∧t { nx:=fun _ H'=>Q .non H',rt:=Q } (start N vs) H):FnOk P w K mg base CX0 (k + 1) f fd ps sp:=by
 obtain ⟨oc,od,kV,doc,pm,an,cdv,ct,osl,rfl,lk,hcd⟩:=F.ex
 refine fn_of lk hcd S len fun A outer s H vs Q E hr hsp=>?_
 obtain ⟨t,h,q⟩:=hbody cdv A outer s H vs Q E hr hsp
 exact ⟨t,h.nox,q⟩
theorem Fun.binds {x qual:Str} {st:Stmt} {f:Addr} {fd:FuncData} {ps:List Str} (F:Fun K x qual st f fd)
  (h:∀ (kV doc pm:Value) (an:Option Addr) (cdv ct:Value) (us:List Value),us.length=ps.length→bindArgs (PySem.W.fnOf x qual (defArgs st) (defBody st) (defScope st) .none kV doc pm an cdv ct) ⟨us,[]⟩=pure (ps.zip us)):Binds K fd ps []:=by
 obtain ⟨oc,od,kV,doc,pm,an,cdv,ct,osl,rfl,lk,hcd⟩:=F.ex
 exact .all (h kV doc pm an cdv ct)
theorem fun_mk {x qual:Str} {st:Stmt} {f:Addr} {oc:Value} {od an:Option Addr} {osl:Array (Option Value)} {kV doc pm cdv ct:Value} (l:K.lookup f=some ⟨oc,od,.func (PySem.W.fnOf x qual (defArgs st) (defBody st) (defScope st) .none kV doc pm an cdv ct),osl⟩)
  (c:PySem.W.codeIn K cdv qual=true) (k:PySem.W.keepIn K (.ref f)=true):Fun K x qual st f (PySem.W.fnOf x qual (defArgs st) (defBody st) (defScope st) .none kV doc pm an cdv ct):=⟨⟨oc,od,kV,doc,pm,an,cdv,ct,osl,rfl,l,c⟩,k⟩
end
section
variable {X:Cx}
end
noncomputable def Same (H H':Hp):Prop:=∀ b o,H b=some o→H' b=some o
theorem Same.refl (H:Hp):Same H H:=fun _ _ h=>h
theorem Same.trans {H H1 H2:Hp} (a:Same H H1) (b:Same H1 H2):Same H H2:=fun c o h=>b c o (a c o h)
theorem Same.free {H H':Hp} (e:Same H H') {l:Addr} (h:H' l=Option.none):H l=Option.none:=by
 cases q:H l with
 | none=>rfl
 | some o =>
  rw [e l o q] at h
  cases h
theorem Same.seq {K:PySem.W.Frag} {H H':Hp} {a:Addr} {xs:List V} (e:Same H H') (h:SqL K H a xs):SqL K H' a xs:=by
 rcases h with (h | ⟨o,h⟩) | h
 ·exact .inl (.inl (e _ _ h))
 ·exact .inl (.inr ⟨o,e _ _ h⟩)
 ·exact .inr h
end L2
end
section
namespace L2
open PySem PySem.Spec PyProof.Rows
section
variable {κ:Type} [DecidableEq κ]
noncomputable def valV (kvs:List (κ×V)) (k:κ):Option V:=(kvs.find? fun kv=>decide (kv.1=k)).map (·.2)
noncomputable def putK (kvs:List (κ×V)) (k:κ) (v:V):List (κ×V) :=
 if (kvs.any fun kv=>decide (kv.1=k))=true then kvs.map (fun kv=>if kv.1=k then (kv.1,v) else kv) else kvs ++ [(k,v)]
noncomputable def dropK (kvs:List (κ×V)) (k:κ):List (κ×V):=kvs.filter fun kv=>decide (kv.1≠k)
theorem valV_pos {p:κ×V} {r:List (κ×V)} {k:κ} (e:p.1=k):valV (p :: r) k=some p.2:=by simp [valV,List.find?_cons,e]
theorem valV_neg {p:κ×V} {r:List (κ×V)} {k:κ} (e:¬ p.1=k):valV (p :: r) k=valV r k:=by simp [valV,List.find?_cons,e]
theorem valV_any (k:κ):∀ kvs:List (κ×V),(kvs.any fun kv=>decide (kv.1=k))=(valV kvs k).isSome
 | []=>rfl
 | p :: r=>by
  rw [List.any_cons]
  by_cases e:p.1=k
  ·simp only [valV_pos e,decide_eq_true e,Bool.true_or,Option.isSome_some]
  ·rw [valV_neg e,decide_eq_false e,Bool.false_or]; exact valV_any k r
theorem RelO.isSome_eq {o:Option V} {u:Option Value} (r:RelO o u):o.isSome=u.isSome:=by
 cases o with
 | none=>cases u with
  | none=>rfl
  | some _=>exact (show False from r).elim
 | some _=>cases u with
  | none=>exact (show False from r).elim
  | some _=>rfl
theorem RelO.getD {o:Option V} {u:Option Value} {d:V} {d':Value} (r:RelO o u) (rd:RelV d d'):RelV (o.getD d) (u.getD d'):=by
 cases o with
 | none=>cases u with
  | none=>exact rd
  | some _=>exact (show False from r).elim
 | some _=>cases u with
  | none=>exact (show False from r).elim
  | some _=>exact r
theorem KV.val {kvs:List (κ×V)} {vs:List (κ×Value)} (r:KV kvs vs) (k:κ):RelO (valV kvs k) (valueAt vs k):=by
 unfold KV at r
 induction r with
 | nil=>exact True.intro
 | @cons p q ps qs h t ih =>
  obtain ⟨h1,h2⟩:=h
  by_cases e:p.1=k
  ·have e':q.1=k:=h1.symm.trans e
   have b:valueAt (q :: qs) k=some q.2:=by simp [valueAt,List.find?_cons,e']
   rw [valV_pos e,b]; exact h2
  ·have e':¬ q.1=k:=fun z=>e (h1.trans z)
   have b:valueAt (q :: qs) k=valueAt qs k:=by simp [valueAt,List.find?_cons,e']
   rw [valV_neg e,b]; exact ih
theorem KV.any {kvs:List (κ×V)} {vs:List (κ×Value)} (r:KV kvs vs) (k:κ):(kvs.any fun kv=>decide (kv.1=k))=vs.any fun kv=>decide (kv.1=k):=by
 unfold KV at r
 induction r with
 | nil=>rfl
 | cons h t ih=>rw [List.any_cons,List.any_cons,ih,h.1]
theorem KV.drop {kvs:List (κ×V)} {vs:List (κ×Value)} (r:KV kvs vs) (k:κ):KV (dropK kvs k) (without vs k):=by
 unfold KV at r ⊢
 unfold dropK without
 induction r with
 | nil=>exact .nil
 | @cons p q ps qs h t ih =>
  obtain ⟨h1,h2⟩:=h
  rw [List.filter_cons,List.filter_cons]
  by_cases e:p.1=k
  ·have a:¬ decide (p.1≠k)=true:=by simp [e]
   have b:¬ decide (q.1≠k)=true:=by simp [h1.symm.trans e]
   rw [if_neg a,if_neg b]; exact ih
  ·have e':¬ q.1=k:=fun z=>e (h1.trans z)
   have a:decide (p.1≠k)=true:=by simp [e]
   have b:decide (q.1≠k)=true:=by simp [e']
   rw [if_pos a,if_pos b]; exact .cons ⟨h1,h2⟩ ih
theorem KV.length {kvs:List (κ×V)} {vs:List (κ×Value)} (r:KV kvs vs):kvs.length=vs.length:=Paired.length r
theorem dropK_le (kvs:List (κ×V)) (k:κ):(dropK kvs k).length≤kvs.length:=List.length_filter_le _ _
end
theorem kV_is {P:Program} {w:World} {k:Key} {u:Value} (r:RelV (kV k) u):(mixKind P w).is k u=true:=by
 cases k with
 | inl i=>obtain ⟨t,e⟩:=(show ∃ t,u=Value.int i t from r); subst e; exact mixKind_int P w i t
 | inr x=>obtain ⟨t,e⟩:=(show ∃ t,u=Value.str x t from r); subst e; exact mixKind_str P w x t
theorem items_are {P:Program} {w:World}:∀ {ks:List Key} {us:List Value},Vals (ks.map kV) us→ItemsAre (mixKind P w) ks us
 | [],_,r=>by rw [List.map_nil] at r; cases r; exact .nil
 | k :: ks,_,r=>by
  rw [List.map_cons] at r
  cases r with
  | cons h t=>exact .cons (kV_is h) (items_are t)
noncomputable abbrev KT (H:Hp):List (List Key×V)→List (List Key×Addr×Value)→Prop:=Paired fun p q=>p.1=q.1∧H q.2.1=some (.tup (p.1.map kV))∧RelV p.2 q.2.2
theorem KT.val {H:Hp} {kvs:List (List Key×V)} {xs:List (List Key×Addr×Value)} (r:KT H kvs xs) (k:List Key):RelO (valV kvs k) ((atKey xs k).map (·.2)):=by
 induction r with
 | nil=>exact True.intro
 | @cons p q ps qs h t ih =>
  obtain ⟨h1,_,h2⟩:=h
  by_cases e:p.1=k
  ·have e':q.1=k:=h1.symm.trans e
   have b:atKey (q :: qs) k=some q.2:=by simp [atKey,List.find?_cons,e']
   rw [valV_pos e,b]; exact h2
  ·have e':¬ q.1=k:=fun z=>e (h1.trans z)
   have b:atKey (q :: qs) k=atKey qs k:=by simp [atKey,List.find?_cons,e']
   rw [valV_neg e,b]; exact ih
theorem KT.keeps {H H':Hp} {kvs:List (List Key×V)} {xs:List (List Key×Addr×Value)} (r:KT H kvs xs) (ht:∀ b ys,H b=some (.tup ys)→H' b=some (.tup ys)):KT H' kvs xs :=
 Paired.mapP r fun _ _ z=>⟨z.1,ht _ _ z.2.1,z.2.2⟩
section
variable {P:Program} {w:World} {H:Hp} {h:Heap} {a:Addr}
theorem rd_of {u:HO} (ok:HOk P w H h) (e:Rd H a u):ObjOk P w H h a u:=e.ok ok
theorem dk_rd {kvs:List (Key×V)} (ok:HOk P w H h) (e:Rd H a (.dK kvs)):kvs.length≤sizeLine∧(a == sysModules)=false∧∃ vs,KV kvs vs∧h.DictOf (mixKind P w) a vs :=
 show ObjOk P w H h a (.dK kvs) from rd_of ok e
theorem dk_of {kvs:List (Key×V)} (ok:HOk P w H h) (e:H a=some (.dK kvs)):kvs.length≤sizeLine∧(a == sysModules)=false∧∃ vs,KV kvs vs∧h.DictOf (mixKind P w) a vs:=dk_rd ok (.inl e)
theorem key_of {ks:List Key} (ok:HOk P w H h) (e:H a=some (.tup (ks.map kV))):(tupleKind (mixKind P w)).is h ks a:=by
 obtain ⟨_,its,r,o,h1,h2,n,h3,_⟩:=(show ObjOk P w H h a (.tup (ks.map kV)) from ok a _ e)
 exact ⟨o,its.toArray,n,h1,h2,h3,by simpa using items_are r⟩
theorem dt_rd {kvs:List (List Key×V)} (ok:HOk P w H h) (e:Rd H a (.dT kvs)):kvs.length≤sizeLine∧(a == sysModules)=false ∧
  ∃ xs,KT H kvs xs∧h.DictOfH (tupleKind (mixKind P w)) a xs:=by
 obtain ⟨z,y,xs,r,o,es,ep,h1,h2,h3,h4,h5⟩:=(show ObjOk P w H h a (.dT kvs) from rd_of ok e)
 refine ⟨z,y,xs,r,o,es,ep,h1,h2,h3,h4,fun x hx=>?_,h5⟩
 have all:∀ {l:List (List Key×V)} {m:List (List Key×Addr×Value)},KT H l m→∀ x∈m,(tupleKind (mixKind P w)).is h x.1 x.2.1:=by
  intro l m q
  induction q with
  | nil=>intro x hx; exact nomatch hx
  | @cons p q ps qs hq t ih =>
   intro x hx
   rcases List.mem_cons.mp hx with e | hx
   ·subst e
    exact key_of ok (by rw [← hq.1]; exact hq.2.1)
   ·exact ih x hx
 exact all r x hx
end
noncomputable def DGet (H:Hp) (a:Addr) (y:V) (r:Option V):Prop :=
 (∃ kvs k,Rd H a (.dK kvs)∧y=kV k∧r=valV kvs k)∨∃ kvs k b,Rd H a (.dT kvs)∧y = .ref b∧H b=some (.tup (k.map kV))∧r=valV kvs k
noncomputable def DPut (H:Hp) (a:Addr) (y v:V) (H':Hp):Prop :=
 (∃ kvs k,H a=some (.dK kvs)∧y=kV k∧kvs.length < sizeLine∧H'=upd H a (.dK (putK kvs k v))) ∨
 ∃ kvs k b,H a=some (.dT kvs)∧y = .ref b∧H b=some (.tup (k.map kV))∧kvs.length < sizeLine∧H'=upd H a (.dT (putK kvs k v))
theorem DGet.k {H:Hp} {a:Addr} {kvs:List (Key×V)} {k:Key} (e:H a=some (.dK kvs)):DGet H a (kV k) (valV kvs k):=.inl ⟨kvs,k,.inl e,rfl,rfl⟩
theorem DGet.t {H:Hp} {a b:Addr} {kvs:List (List Key×V)} {k:List Key} (e:H a=some (.dT kvs)) (eb:H b=some (.tup (k.map kV))):DGet H a (.ref b) (valV kvs k):=.inr ⟨kvs,k,b,.inl e,rfl,eb,rfl⟩
theorem DPut.k {H:Hp} {a:Addr} {kvs:List (Key×V)} {k:Key} {v:V} (e:H a=some (.dK kvs)) (hl:kvs.length < sizeLine):DPut H a (kV k) v (upd H a (.dK (putK kvs k v))):=.inl ⟨kvs,k,e,rfl,hl,rfl⟩
theorem DPut.t {H:Hp} {a b:Addr} {kvs:List (List Key×V)} {k:List Key} {v:V} (e:H a=some (.dT kvs)) (eb:H b=some (.tup (k.map kV))) (hl:kvs.length < sizeLine) :
  DPut H a (.ref b) v (upd H a (.dT (putK kvs k v))):=.inr ⟨kvs,k,b,e,rfl,eb,hl,rfl⟩
section
variable {X:Cx} {pins:List (Addr×Obj)} {σ:St} {H:Hp} {s:Shared} {a:Addr} {y v:V} {u r:Value} {o:Option V} {A:Around} {E:Value→Shared→Prop}
theorem d_in {Q:Value→Shared→Prop} (hu:A.units + 1 < cLine) (I:Inv X pins σ H s) (g:DGet H a y o) (ry:RelV y u) (h:∀ s',Inv X pins σ H s'→Q (.bool o.isSome) s') :
  wpAny (model X.prog X.w) A (compareOp .In u (.ref a)) Q E s:=by
 rcases g with ⟨kvs,k,e,ey,l⟩ | ⟨kvs,k,b,e,ey,eb,l⟩
 ·subst ey
  obtain ⟨z,hd,vs,rel,dd⟩:=dk_rd I.hok e
  refine wpAny_in_of (kV_is ry) hd dd.mapOf ?_
  rw [← (rel.val k).isSome_eq,← l]
  exact h _ (I.tok _)
 ·subst ey
  cases (show u=Value.ref b from ry)
  obtain ⟨z,hd,xs,rel,dd⟩:=dt_rd I.hok e
  refine wpAny_in_heap (tupleKind_room_in1 hu) (key_of I.hok eb) hd dd ?_
  have q:=(rel.val k).isSome_eq
  rw [Option.isSome_map] at q
  rw [← q,← l]
  exact h _ (I.tok _)
theorem d_notIn {Q:Value→Shared→Prop} (hu:A.units + 1 < cLine) (I:Inv X pins σ H s) (g:DGet H a y o) (ry:RelV y u) (h:∀ s',Inv X pins σ H s'→Q (.bool (!o.isSome)) s') :
  wpAny (model X.prog X.w) A (compareOp .NotIn u (.ref a)) Q E s:=by
 rcases g with ⟨kvs,k,e,ey,l⟩ | ⟨kvs,k,b,e,ey,eb,l⟩
 ·subst ey
  obtain ⟨z,hd,vs,rel,dd⟩:=dk_rd I.hok e
  refine wpAny_notIn_of (kV_is ry) hd dd.mapOf ?_
  rw [← (rel.val k).isSome_eq,← l]
  exact h _ (I.tok _)
 ·subst ey
  cases (show u=Value.ref b from ry)
  obtain ⟨z,hd,xs,rel,dd⟩:=dt_rd I.hok e
  refine wpAny_notIn_heap (tupleKind_room_in1 hu) (key_of I.hok eb) hd dd ?_
  have q:=(rel.val k).isSome_eq
  rw [Option.isSome_map] at q
  rw [← q,← l]
  exact h _ (I.tok _)
theorem d_write {h':Heap} {t':Nat} {ob:HO} (I:Inv X pins σ H s) (mu:Mut (H a)) (hs:Heap.SameBut a s.heap h') (he:∃ q,h'.get? a=some q) (new:ObjOk X.prog X.w (upd H a ob) h' a ob) :
  Inv X pins σ (upd H a ob) { s with heap:=h',toks:=t' } :=
 I.write (x:=a) (e:=a) mu (.inl rfl) (fun b q hb z=>(hs.2 b hb).trans z) he new
theorem dk_new {P:Program} {w:World} {H':Hp} {h':Heap} {kvs:List (Key×V)} {vs:List (Key×Value)} (z:kvs.length≤sizeLine) (hd:(a == sysModules)=false) (rel:KV kvs vs) (dd:h'.DictOf (mixKind P w) a vs) :
  ObjOk P w H' h' a (.dK kvs):=⟨z,hd,vs,rel,dd⟩
end
section
variable {X:Cx} {pins:List (Addr×Obj)} {σ:St} {H:Hp} {s:Shared} {a:Addr} {kvs:List (Key×V)} {k:Key} {u:Value} {A:Around} {E:Value→Shared→Prop}
theorem d_pop {v:V} {more:List Value} {Q:Value→Shared→Prop} (I:Inv X pins σ H s) (e:H a=some (.dK kvs)) (ry:RelV (kV k) u) (l:valV kvs k=some v) (hm:more=[]∨∃ x,more=[x])
  (h:∀ w' s',Inv X pins σ (upd H a (.dK (dropK kvs k))) s'→RelV v w'→Q w' s'):wpAny (model X.prog X.w) A (call (.builtin "dict.pop") (.ref a :: u :: more)) Q E s:=by
 obtain ⟨z,hd,vs,rel,dd⟩:=dk_of I.hok e
 obtain ⟨w',hw,rw'⟩:=RelO.some_of (v:=v) (o:=valueAt vs k) (by rw [← l]; exact rel.val k)
 have hp:(keyPart u).isSome=true:=by
  cases k with
  | inl i=>obtain ⟨t,q⟩:=(show ∃ t,u=Value.int i t from ry); subst q; rfl
  | inr x=>obtain ⟨t,q⟩:=(show ∃ t,u=Value.str x t from ry); subst q; rfl
 have ha:argsOk "dict.pop" ⟨.ref a :: u :: more,[]⟩:=by
  rcases hm with q | ⟨x,q⟩
  ·subst q; exact PySem.F.args_dict_pop_2 _ _
  ·subst q; exact PySem.F.args_dict_pop_3 _ _ _
 refine call_meetsIn PySem.F.slot_dict_pop dd.typeIs PySem.F.entry_dict_pop ha (meets_dict_pop_there (mixKind X.prog X.w) a (kV_is ry) more hm hp)
  ⟨vs,w',dd,by rw [← rel.length]; exact z,hw,fun h' dd' hs=>h w' _ ?_ rw'⟩
 have he:∃ q,h'.get? a=some q:=let ⟨q,_,_,hq,_⟩:=dd'; ⟨q,hq⟩
 exact d_write I (by rw [e]; exact True.intro) hs he (dk_new (Nat.le_trans (dropK_le kvs k) z) hd (rel.drop k) dd')
theorem d_len {Q:Value→Shared→Prop} (I:Inv X pins σ H s) (e:Rd H a (.dK kvs)) (h:∀ t s',Inv X pins σ H s'→Q (.int kvs.length t) s'):wpAny (model X.prog X.w) A (call (.builtin "len") [.ref a]) Q E s:=by
 obtain ⟨z,hd,vs,rel,dd⟩:=dk_rd I.hok e
 refine call_len_dict hd dd (by rw [← rel.length]; rw [sizeLine_eq] at z; omega) ?_
 rw [← rel.length]
 exact h _ _ (I.tok _)
end
section
variable {X:Cx} {o i e value:Expr} {pos pos' tpos:Pos} {td ty tv:TE}
end
section
variable {X:Cx} {pos:Pos}
end
section
variable {X:Cx} {pins:List (Addr×Obj)} {σ:St} {H:Hp} {s:Shared} {a:Addr} {y d:V} {u r:Value} {o:Option V} {A:Around} {E:Value→Shared→Prop}
theorem d_get2 {Q:Value→Shared→Prop} (hu:A.units + 1 < cLine) (I:Inv X pins σ H s) (g:DGet H a y o) (ry:RelV y u) (rd:RelV d r) (h:∀ w' s',Inv X pins σ H s'→RelV (o.getD d) w'→Q w' s') :
  wpAny (model X.prog X.w) A (call (.builtin "dict.get") [.ref a,u,r]) Q E s:=by
 rcases g with ⟨kvs,k,e,ey,l⟩ | ⟨kvs,k,b,e,ey,eb,l⟩
 ·subst ey
  obtain ⟨z,hd,vs,rel,dd⟩:=dk_rd I.hok e
  refine call_meetsIn PySem.F.slot_dict_get dd.typeIs PySem.F.entry_dict_get (PySem.F.args_dict_get_3 _ _ _) (meets_dict_get_default (mixKind X.prog X.w) a (kV_is ry) hd r) ⟨_,dd.mapOf,h _ _ (I.tok _) ?_⟩
  rw [l]
  exact (rel.val k).getD rd
 ·subst ey
  cases (show u=Value.ref b from ry)
  obtain ⟨z,hd,xs,rel,dd⟩:=dt_rd I.hok e
  refine call_meetsIn PySem.F.slot_dict_get dd.typeIs PySem.F.entry_dict_get (PySem.F.args_dict_get_3 _ _ _) (meetsH_dict_get_default (tupleKind (mixKind X.prog X.w)) a b hd r) ⟨tupleKind_room_in1 hu,k,xs,key_of I.hok eb,dd,h _ _ (I.tok _) ?_⟩
  rw [l]
  exact (rel.val k).getD rd
end
section
variable {X:Cx} {o e f:Expr} {apos cpos:Pos} {td ty tx:TE}
end
section
variable {X:Cx} {pins:List (Addr×Obj)} {σ:St} {H:Hp} {s:Shared} {a:Addr} {kvs:List (Key×V)} {A:Around} {E:Value→Shared→Prop}
end
section
variable {X:Cx} {pins:List (Addr×Obj)} {σ:St} {H:Hp} {s:Shared} {a:Addr} {y:V} {u:Value} {A:Around} {E:Value→Shared→Prop}
end
end L2
end
section
set_option autoImplicit false
set_option maxHeartbeats 2000000
namespace DW
open PySem PySem.Spec PyProof.Rows L2
noncomputable def TrX (B:Heap) (e:Addr) (ob:Obj) (vs:Array Value) (fl:Value) (h:Heap):Prop :=
 ∃ T oT ts,h.get? e=some { ob with data:=.fields (vs.setIfInBounds 1 (.ref T)) }∧B.get? T=none∧T≠e∧h.get? T=some oT∧oT.data = .fields ts∧ts[3]? = some fl
structure FlyX (B:Heap) (l:List Env) (e:Addr) (ob:Obj) (vs:Array Value) (fl:Value) (h:Heap):Prop where
 stay:B.StaysIn h
 new:B.get? e=none
 fun_:h.FunFrames B l
 tr:TrX B e ob vs fl h
 two:2 < vs.size
theorem TrX.there {B h:Heap} {e:Addr} {ob:Obj} {vs:Array Value} {fl:Value} (x:TrX B e ob vs fl h):∃ T,h.get? e=some { ob with data:=.fields (vs.setIfInBounds 1 (.ref T)) }:=let ⟨T,_,_,q,_⟩:=x; ⟨T,q⟩
theorem rec_ne {h:Heap} {b e:Addr} {o oe:Obj} {vs:Array Value} (hb:h.get? b=some o) (hn:∀ vs,o.data≠.fields vs) (he:h.get? e=some oe) (hd:oe.data = .fields vs):b≠e:=fun z=>by
 subst z; rw [hb] at he; cases he; exact hn vs hd
theorem out_ne {B:Heap} {b e:Addr} {o:Obj} (hb:B.get? b=some o) (he:B.get? e=none):b≠e:=fun z=>by subst z; rw [hb] at he; cases he
section
variable {M:Model} {A:Around} {E:Value→Shared→Prop} {s:Shared} {B:Heap} {env:Env} {outer:List Env} {L e:Addr} {ob:Obj} {ws vs:Array Value} {Q:Unit→Shared→Prop}
theorem upd_rec {h:Heap} {a:Addr} {f:Obj→Obj}:∀ b,b≠a→(h.update a f).get? b=h.get? b:=fun b hb=>Heap.get?_update_other _ _ (Ne.symm hb)
theorem entry_x {hd:Value} {hn:Bool} (fr:A.frames=some (env :: outer)) (F:s.heap.FunFrames B (env :: outer)) (hf:env.frame=some L) (he:s.heap.get? e=some { ob with data:=.fields ws }) (st:B.StaysIn s.heap) (new:B.get? e=none)
  (z:2 < ws.size) (k:∀ h',FlyX B (env :: outer) e ob ws (rawInt L) h'→s.heap.UpToSlots h'→Q () { s with heap:=h' }) :
  wpAny M A (do let a ← frameOf env; let pl ← entryPlaceOf L hn; let b ← EntryCells.newEntry hd a .none (rawInt L) .none pl; setField (.ref e) 1 b) Q E s:=by
 have eo:e ∉ (env :: outer).filterMap (·.frame):=fun m=>let ⟨_,o,ho,nf⟩:=F.mem m; by rw [he] at ho; cases ho; exact nf ws rfl
 refine wpAny_bind (wpAny_frameOf_fun fr F hf fun g1 sl1=>wpAny_bind (wpAny_entryPlaceOf fun pl ip=>?_))
 unfold EntryCells.newEntry newFields
 refine wpAny_bind (wpAny_newObj_type ?_ (ip.sizeOk5 _ _ _ _ _))
 have e1:g1.get? e=some { ob with data:=.fields ws }:=by rw [sl1.2.1 e eo]; exact he
 have st1:B.StaysIn g1:=fun b o q=>by
  rw [sl1.2.1 b fun m=>(by rw [(F.mem m).1] at q; cases q)]; exact st b o q
 generalize hN:({ cls:=.type "traceback",dict:=none,data:=.fields ([hd,.ref L,.none,rawInt L,.none] ++ (if pl.isEmpty then List.replicate 6 Value.none else pl)).toArray }:Obj)=N
 have dN:N.data = .fields ([hd,.ref L,.none,rawInt L,.none] ++ (if pl.isEmpty then List.replicate 6 Value.none else pl)).toArray:=by rw [← hN]
 have nN:N.isFreed=false:=by rw [← hN]; rfl
 have lt:=Heap.lt_size e1
 have Te:g1.objs.size≠e:=Nat.ne_of_gt lt
 refine wpAny_setField (Heap.get?_push_of_some (h:=g1) N e1) rfl (by omega) (k _ ⟨?_,new,?_,?_,z⟩ ?_)
 ·intro b o q
  rw [upd_rec b (out_ne q new)]
  exact Heap.get?_push_of_some _ (st1 b o q)
 ·refine F.of_keeps fun b o hb nf=>?_
  obtain ⟨sl,q⟩:=sl1.2.2 b o hb
  exact ⟨{ o with slots:=sl },by rw [upd_rec b (rec_ne hb nf he rfl)]; exact Heap.get?_push_of_some _ q,rfl⟩
 ·refine ⟨g1.objs.size,N,_,Heap.get?_update_self _ (Heap.get?_push_of_some (h:=g1) N e1) rfl,st1.fresh,Te,?_,dN,?_⟩
  ·rw [upd_rec _ Te]; exact Heap.get?_push_size g1 nN
  ·rcases ip with rfl | ⟨_,_,_,_,_,_,_,rfl⟩ <;> simp
 ·intro b o hb nf
  obtain ⟨sl,q⟩:=sl1.2.2 b o hb
  exact ⟨sl,by rw [upd_rec b (rec_ne hb nf he rfl)]; exact Heap.get?_push_of_some _ q⟩
theorem set_at {x:Value} (z:2 < ws.size):(ws.setIfInBounds 1 x)[1]? = some x:=by
 rw [Array.getElem?_setIfInBounds]
 simp; omega
theorem set_two {x:Value}:(ws.setIfInBounds 1 x)[2]? = ws[2]?:=by
 rw [Array.getElem?_setIfInBounds]
 simp
theorem set_same {x y:Value}:(ws.setIfInBounds 1 x).setIfInBounds 1 y=ws.setIfInBounds 1 y:=by simp
theorem note_x (fr:A.frames=some (env :: outer)) (F:s.heap.FunFrames B (env :: outer)) (hf:env.frame=some L) (he:s.heap.get? e=some { ob with data:=.fields ws }) (st:B.StaysIn s.heap) (new:B.get? e=none) (z:2 < ws.size)
  (h1:ws[1]? = some .none∨∃ T oT ts,ws[1]? = some (.ref T)∧B.get? T=none∧T≠e∧s.heap.get? T=some oT∧oT.data = .fields ts∧ts[3]? = some .none)
  (k:∀ h',FlyX B (env :: outer) e ob ws (rawInt L) h'→s.heap.UpToSlots h'→Q () { s with heap:=h' }):wpAny M A (noteFrame (.ref e) env) Q E s:=by
 unfold noteFrame
 simp only [hf]
 rcases h1 with h1 | ⟨T,oT,ts,h1,nT,ne,hT,dT,h3⟩
 ·refine wpAny_bind (wpAny_field he rfl h1 ?_)
  rw [if_neg (by decide)]
  exact entry_x fr F hf he st new z k
 ·refine wpAny_bind (wpAny_field he rfl h1 ?_)
  rw [if_pos (by simp:(Value.ref T != Value.none)=true)]
  refine wpAny_bind (wpAny_field hT dT h3 ?_)
  rw [if_neg (by simp [rawInt]:¬ (Value.none == rawInt L)=true)]
  refine wpAny_bind (wpAny_setField hT dT (Array.getElem?_eq_some_iff.mp h3).1 ?_)
  refine entry_x (s:={ s with heap:=s.heap.update T _ }) fr (F.of_keeps fun b o hb nf=>⟨o,by rw [upd_rec b (rec_ne hb nf hT dT)]; exact hb,rfl⟩) hf (by rw [upd_rec e (Ne.symm ne)]; exact he) (fun b o q=>by rw [upd_rec b (out_ne q nT)]; exact st b o q) new z fun h' x u=>k h' x ?_
  intro b o hb nf
  exact u b o (by rw [upd_rec b (rec_ne hb nf hT dT)]; exact hb) nf
theorem land_x {l:List Env} {fl:Value} (x:FlyX B l e ob vs fl s.heap) (k:∀ h',FlyX B l e ob vs .none h'→s.heap.UpToSlots h'→Q () { s with heap:=h' }):wpAny M A (setFlight (.ref e) none) Q E s:=by
 obtain ⟨st,new,F,⟨T,oT,ts,he,nT,ne,hT,dT,h3⟩,z⟩:=x
 unfold setFlight
 have z3:=(Array.getElem?_eq_some_iff.mp h3).1
 refine wpAny_bind (wpAny_field he rfl (x:=.ref T) (set_at z) ?_)
 rw [if_pos (by simp:(Value.ref T != Value.none)=true)]
 obtain ⟨c,d,dt,sl⟩:=oT
 cases dT
 refine wpAny_setField hT rfl z3 (k _ ⟨fun b o q=>by rw [upd_rec b (out_ne q nT)]; exact st b o q,new,F.of_keeps fun b o hb nf=>⟨o,by rw [upd_rec b (rec_ne hb nf hT rfl)]; exact hb,rfl⟩,⟨T,_,_,by rw [upd_rec e (Ne.symm ne)]; exact he,nT,ne,Heap.get?_update_self _ hT rfl,rfl,by simp [z3]⟩,z⟩ fun b o hb nf=>⟨o.slots,by rw [upd_rec b (rec_ne hb nf hT rfl)]; exact hb⟩)
theorem leave_x (fr:A.frames=some (env :: outer)) (F:s.heap.FunFrames B (env :: outer)) (hf:env.frame=some L) (he:s.heap.get? e=some { ob with data:=.fields ws }) (st:B.StaysIn s.heap) (new:B.get? e=none) (z:2 < ws.size)
  (h1:ws[1]? = some .none∨∃ T oT ts,ws[1]? = some (.ref T)∧B.get? T=none∧T≠e∧s.heap.get? T=some oT∧oT.data = .fields ts∧ts[3]? = some .none)
  (k:∀ h',FlyX B outer e ob ws .none h'→s.heap.UpToSlots h'→Q () { s with heap:=h' }):wpAny M A (leaving env (.ref e)) Q E s:=by
 unfold leaving
 refine wpAny_bind (note_x fr F hf he st new z h1 fun h' x u=>land_x (s:={ s with heap:=h' }) x fun h2 y v=>k h2 ⟨y.stay,y.new,?_,y.tr,y.two⟩ (u.trans v))
 obtain ⟨_,_,q⟩:=y.fun_
 exact q
theorem TrX.re {x:Value} {h:Heap} {fl:Value} (y:TrX B e ob (vs.setIfInBounds 1 x) fl h):TrX B e ob vs fl h:=by
 obtain ⟨T,oT,ts,he,r⟩:=y
 rw [set_same] at he
 exact ⟨T,oT,ts,he,r⟩
theorem FlyX.re {l:List Env} {x:Value} {h:Heap} {fl:Value} (y:FlyX B l e ob (vs.setIfInBounds 1 x) fl h):FlyX B l e ob vs fl h:=⟨y.stay,y.new,y.fun_,y.tr.re,by have:=y.two; simpa using this⟩
theorem leave_on (fr:A.frames=some (env :: outer)) (hf:env.frame=some L) (x:FlyX B (env :: outer) e ob vs .none s.heap) (k:∀ h',FlyX B outer e ob vs .none h'→s.heap.UpToSlots h'→Q () { s with heap:=h' }) :
  wpAny M A (leaving env (.ref e)) Q E s:=by
 obtain ⟨T,oT,ts,he,r⟩:=x.tr
 have z:=x.two
 exact leave_x fr x.fun_ hf he x.stay x.new (by simpa using z) (.inr ⟨T,oT,ts,set_at z,r⟩) fun h' y u=>k h' y.re u
theorem note_on (fr:A.frames=some (env :: outer)) (hf:env.frame=some L) (x:FlyX B (env :: outer) e ob vs .none s.heap) (k:∀ h',FlyX B (env :: outer) e ob vs (rawInt L) h'→s.heap.UpToSlots h'→Q () { s with heap:=h' }) :
  wpAny M A (noteFrame (.ref e) env) Q E s:=by
 obtain ⟨T,oT,ts,he,r⟩:=x.tr
 have z:=x.two
 exact note_x fr x.fun_ hf he x.stay x.new (by simpa using z) (.inr ⟨T,oT,ts,set_at z,r⟩) fun h' y u=>k h' y.re u
end
end DW
end
section
set_option autoImplicit false
namespace DW
open PySem PySem.StrLaws PySem.Builtin PySem.Builtin.Str
noncomputable def splitC (c:Nat):List Nat→List (List Nat)
 | []=>[[]]
 | x :: xs=>if x=c then [] :: splitC c xs else match splitC c xs with | p :: ps=>(x :: p) :: ps | []=>[[x]]
noncomputable def preC (c:Nat) (x:List Nat):List Nat:=x.takeWhile (· != c)
noncomputable def postC (c:Nat) (x:List Nat):List Nat:=(x.dropWhile (· != c)).drop 1
noncomputable def joinC (sep:List Nat):List (List Nat)→List Nat
 | []=>[]
 | [x]=>x
 | x :: y :: r=>x ++ sep ++ joinC sep (y :: r)
noncomputable def plc (x:List Nat) (c:Nat) (l:List Nat):List Nat:=l.filter fun i=>x[i]? == some c
theorem occ_fold (x:Str) (c limit:Nat):∀ (l:List Nat) (st:Array Nat×Nat),l.Pairwise (· < ·)→(∀ i∈l,st.2≤i)→st.1.size + l.length≤limit →
  (forIn l st (occBody x ⟨#[c]⟩ x.length limit)).run.fst.toList=st.1.toList ++ plc x.cps.toList c l
 | [],st,_,_,_=>by simp [plc]
 | a :: l,st,hp,hf,hl=>by
  rw [List.forIn_cons]
  unfold occBody
  simp only [List.pairwise_cons] at hp
  have h1:=subAt_one x c a
  by_cases hc:x.cps.toList[a]? = some c
  ·have h2:=h1.mpr hc
   have c1:((st.fst.size < limit∧st.snd≤a)∧a + (⟨#[c]⟩:Str).length≤x.length)∧subAt x ⟨#[c]⟩ a=true:=⟨⟨⟨by simp at hl; omega,hf a (by simp)⟩,h2.1⟩,h2.2⟩
   rw [if_pos c1]
   have ih:=occ_fold x c limit l (st.fst.push a,a + (⟨#[c]⟩:Str).length) hp.2 (fun i hi=>by have:=hp.1 i hi; show a + 1≤i; omega) (by simp at hl ⊢; omega)
   refine ih.trans ?_
   have hb:(x.cps.toList[a]? == some c)=true:=by rw [hc]; simp
   unfold plc
   rw [List.filter_cons,if_pos hb]
   simp only [Array.toList_push,List.append_assoc,List.cons_append,List.nil_append]
  ·have c2:¬ (((st.fst.size < limit∧st.snd≤a)∧a + (⟨#[c]⟩:Str).length≤x.length)∧subAt x ⟨#[c]⟩ a=true):=fun h=>hc (h1.mp ⟨h.1.2,h.2⟩)
   rw [if_neg c2]
   have ih:=occ_fold x c limit l (st.fst,st.snd) hp.2 (fun i hi=>hf i (by simp [hi])) (by simp at hl ⊢; omega)
   refine ih.trans ?_
   have hb:¬ (x.cps.toList[a]? == some c)=true:=fun z=>hc (by simpa only [beq_iff_eq] using z)
   unfold plc
   rw [List.filter_cons,if_neg hb]
theorem occ_all (x:Str) (c:Nat):occurrences x ⟨#[c]⟩ 0 x.length (x.length + 1)=plc x.cps.toList c (List.range' 0 (x.length + 1)):=by
 rw [occ_eq]
 have:=occ_fold x c (x.length + 1) (List.range' 0 (x.length + 1 - 0)) (#[],0) (List.pairwise_lt_range' (s:=0) (n:=x.length + 1 - 0)) (fun _ _=>Nat.zero_le _) (by simp)
 rw [this]; simp
theorem strSub_cps (x:Str) (i j:Nat):(strSub x i j).cps.toList=(x.cps.toList.drop i).take (j - i):=strSub_toList x i j
noncomputable def cpl (s:Str):List Nat:=s.cps.toList
theorem parts_split (x:Str) (c:Nat):∀ (n a:Nat),a + n=x.cps.toList.length→(partsFrom x 1 a (plc x.cps.toList c (List.range' a (n + 1)))).map cpl=splitC c (x.cps.toList.drop a)
 | 0,a,h=>by
  have hd:x.cps.toList.drop a=[]:=List.drop_eq_nil_of_le (by omega)
  have hn:x.cps.toList[a]? = none:=List.getElem?_eq_none (by omega)
  have e:plc x.cps.toList c (List.range' a (0 + 1))=[]:=by
   unfold plc
   rw [List.range'_succ,List.filter_cons,hn]
   rfl
  rw [e,hd]
  simp only [partsFrom,List.map_cons,List.map_nil,cpl,strSub_cps,hd,splitC]
  simp
 | n + 1,a,h=>by
  have ha:a < x.cps.toList.length:=by omega
  have hdr:x.cps.toList.drop a=x.cps.toList[a] :: x.cps.toList.drop (a + 1):=List.drop_eq_getElem_cons ha
  have ih:=parts_split x c n (a + 1) (by omega)
  have hg:x.cps.toList[a]? = some x.cps.toList[a]:=List.getElem?_eq_getElem ha
  rw [List.range'_succ]
  by_cases hc:x.cps.toList[a]=c
  ·have e:plc x.cps.toList c (a :: List.range' (a + 1) (n + 1))=a :: plc x.cps.toList c (List.range' (a + 1) (n + 1)):=by
    unfold plc; rw [List.filter_cons,hg,hc]; simp
   rw [e,hdr]
   simp only [partsFrom,List.map_cons,ih,splitC,hc,if_true,cpl,strSub_cps]
   simp
  ·have e:plc x.cps.toList c (a :: List.range' (a + 1) (n + 1))=plc x.cps.toList c (List.range' (a + 1) (n + 1)):=by
    unfold plc; rw [List.filter_cons,hg,if_neg (by simpa only [beq_iff_eq,Option.some.injEq] using hc)]
   rw [e,hdr]
   simp only [splitC,hc,if_false]
   have hin:∀ k∈plc x.cps.toList c (List.range' (a + 1) (n + 1)),a + 1≤k:=fun k hk=>by
    have:=(List.mem_filter.mp hk).1
    simp [List.mem_range'] at this
    omega
   generalize plc x.cps.toList c (List.range' (a + 1) (n + 1))=cuts at ih hin
   have key:∀ j:Nat,a + 1≤j→cpl (strSub x a j)=x.cps.toList[a] :: cpl (strSub x (a + 1) j):=fun j hj=>by
    simp only [cpl,strSub_cps,hdr]
    rw [show j - a=(j - (a + 1)) + 1 by omega,List.take_succ_cons]
   have hl:x.length=x.cps.toList.length:=by simp [Str.length]
   cases cuts with
   | nil =>
    simp only [partsFrom,List.map_cons,List.map_nil] at ih ⊢
    rw [← ih,key _ (by omega)]
   | cons k r =>
    simp only [partsFrom,List.map_cons] at ih ⊢
    rw [← ih,key _ (hin k (by simp))]
theorem split_parts (x:Str) (c:Nat):(partsBetween x (occurrences x ⟨#[c]⟩ 0 x.length (x.length + 1)) (⟨#[c]⟩:Str).length).map cpl=splitC c (cpl x):=by
 rw [partsBetween_eq,occ_all]
 have:=parts_split x c x.length 0 (by simp [Str.length])
 simpa [Str.length,cpl] using this
theorem splitC_no {c:Nat}:∀ {x:List Nat},c ∉ x→splitC c x=[x]
 | [],_=>rfl
 | a :: x,h=>by
  simp only [List.mem_cons,not_or] at h
  unfold splitC
  rw [if_neg (Ne.symm h.1),splitC_no h.2]
theorem splitC_cat {c:Nat} {y:List Nat}:∀ {x:List Nat},c ∉ x→splitC c (x ++ c :: y)=x :: splitC c y
 | [],_=>by show (if c=c then _ else _)=_; rw [if_pos rfl]
 | a :: x,h=>by
  simp only [List.mem_cons,not_or] at h
  have ih:=splitC_cat (y:=y) h.2
  show (if a=c then [] :: splitC c (x ++ c :: y) else match splitC c (x ++ c :: y) with | p :: ps=>(a :: p) :: ps | []=>[[a]])=_
  rw [if_neg (Ne.symm h.1),ih]
theorem split_join {c:Nat}:∀ {ws:List (List Nat)},ws≠[]→(∀ w∈ws,c ∉ w)→splitC c (joinC [c] ws)=ws
 | [],h,_=>absurd rfl h
 | [w],_,h=>splitC_no (h w (by simp))
 | w :: v :: r,_,h=>by
  show splitC c (w ++ [c] ++ joinC [c] (v :: r))=_
  rw [List.append_assoc]
  show splitC c (w ++ c :: joinC [c] (v :: r))=_
  rw [splitC_cat (h w (by simp)),split_join (by simp) fun u hu=>h u (by simp [hu])]
theorem splitC_len (c:Nat):∀ x:List Nat,(splitC c x).length≤x.length + 1
 | []=>by simp [splitC]
 | a :: x=>by
  have:=splitC_len c x
  unfold splitC
  split
  ·simp; omega
  ·cases q:splitC c x with
   | nil=>simp
   | cons p ps=>rw [q] at this; simp at this ⊢; omega
theorem preC_no {c:Nat}:∀ {x:List Nat},c ∉ x→preC c x=x
 | [],_=>rfl
 | a :: x,h=>by
  simp only [List.mem_cons,not_or] at h
  have:(a != c)=true:=by simpa using Ne.symm h.1
  unfold preC; rw [List.takeWhile_cons,if_pos this]; congr 1; exact preC_no h.2
theorem pre_at {c:Nat}:∀ (x:List Nat) (i:Nat),x[i]? = some c→(∀ k,k < i→x[k]?≠some c)→preC c x=x.take i∧postC c x=x.drop (i + 1)
 | [],i,h,_=>by simp at h
 | a :: x,0,h,_=>by
  have:a=c:=by simpa using h
  subst this
  simp [preC,postC]
 | a :: x,i + 1,h,hn=>by
  have h0:a≠c:=by have:=hn 0 (by omega); simpa using this
  have:(a != c)=true:=by simpa using h0
  obtain ⟨h1,h2⟩:=pre_at x i (by simpa using h) (fun k hk=>by have:=hn (k + 1) (by omega); simpa using this)
  unfold preC postC at *
  rw [List.takeWhile_cons,if_pos this,List.dropWhile_cons,if_pos this,h1,h2]
  exact ⟨rfl,rfl⟩
theorem join_cps (sep:Str):∀ ws:List Str,cpl (Str.join sep ws)=joinC (cpl sep) (ws.map cpl)
 | []=>rfl
 | [w]=>rfl
 | w :: v :: r=>by
  have ih:=join_cps sep (v :: r)
  have:Str.join sep (w :: v :: r)=w ++ sep ++ Str.join sep (v :: r):=rfl
  rw [this]
  simp only [List.map_cons,joinC] at ih ⊢
  rw [← ih]
  simp [cpl,show ∀ a b:Str,(a ++ b).cps=a.cps ++ b.cps from fun _ _=>rfl]
end DW
end
section
set_option autoImplicit false
namespace DW
open PySem
noncomputable abbrev DKey:=Sum Int (List Nat)
inductive D where
 | non | bl (b:Bool) | int (i:Int) | str (x:List Nat)
 | tup (ds:List D) | lst (ds:List D) | ro (ds:List D) | loc (n:Nat) | dic (ks:List DKey) (ds:List D) | fdc (ks:List DKey) (ds:List D)
inductive Cell where
 | lst (ds:List D) | ins (c:String) (fs:List (String×D)) | dic (ks:List DKey) (ds:List D) | dtc (ks:List (List DKey)) (ds:List D) | fdt (o:Obj) (ks:List (List DKey)) (ds:List D) | exc (c:String) (ks:List String) (ds:List D) | gone
noncomputable abbrev Mem:=List Cell
noncomputable abbrev Rho:=List (Option D)
noncomputable abbrev QD:=D→Mem→Prop
noncomputable abbrev DSp:=List D→Mem→QD→Prop
noncomputable abbrev QX:=String→List String→List D→Mem→Prop
noncomputable abbrev DSpX:=List D→Mem→QD→QX→Prop
mutual
inductive E where
 | var (i:Nat) | cst (d:D) | gbl (x:Str) (d:D)
 | bin (op:Operator) (a b:E) | neg (a:E) | not (a:E)
 | cmp (op:CmpOp) (a b:E) | chain (p q:CmpOp) (a b c:E)
 | and (a b:E) | or (a b:E) | ife (c a b:E)
 | call (x:Str) (sp:DSp) (as:Es) | blt (x:String) (as:Es)
 | isin (a:E) (t:String)
 | meth (m:String) (o:E) (as:Es) | sqm (m:String) (o:E) (as:Es) | efl (f:String) (tab:List String) (o:E)
 | idx (a b:E) | slc (m:Bool) (a:E) (lo hi:Es)
 | tup (as:Es) | lst (m:Bool) (as:Es) | dsp (ks:List DKey) (as:Es)
 | comp (m:Bool) (tg:Nat) (tt:Bool) (cap:List Nat) (elt:E) (it:It) (cond:Es)
 | frz (a:E)
 | cat (m:Bool) (a b:E)
 | isx (a:E) (tt:Bool) (ts:List String) (tab:List (String×Bool))
inductive Es where
 | nil | cons (e:E) (es:Es)
inductive It where
 | seq (e:E) | rng (as:Es) | zip (a b:E) | enum (a:E)
end
inductive XC where
 | fn (x:Str) (sp:DSpX) (as:Es)
mutual
inductive S where
 | set (i:Nat) (e:E) | setT (is:List Nat) (e:E)
 | setIx (o i e:E)
 | exp (e:E) | ret (e:E)
 | ite (c:E) (a b:Ss) | for_ (tg:List Nat) (tt:Bool) (it:It) (b:Ss)
 | nev
 | setX (i:Nat) (c:XC) | raisI (c:String) (ks:List String) (as:Es) | tryx (P:String) (tab:List String) (i:Nat) (b h:Ss)
inductive Ss where
 | nil | cons (s:S) (r:Ss)
end
noncomputable def b2i (b:Bool):Int:=if b then 1 else 0
mutual
noncomputable def flat:Nat→D→Bool
 | _,.non=>true
 | _,.bl _=>true
 | _,.int _=>true
 | _,.str x=>x.all (· < 1114112)
 | n + 1,.tup ds=>flats n ds
 | n + 1,.lst ds=>flats n ds
 | _,_=>false
noncomputable def flats:Nat→List D→Bool
 | _,[]=>true
 | n,d :: ds=>flat n d && flats n ds
end
mutual
noncomputable def eqD:D→D→Bool
 | .non,e=>match e with | .non=>true | _=>false
 | .bl a,e=>match e with | .bl b=>a == b | .int j=>b2i a == j | _=>false
 | .int i,e=>match e with | .int j=>i == j | .bl b=>i == b2i b | _=>false
 | .str x,e=>match e with | .str y=>x == y | _=>false
 | .tup ds,e=>match e with | .tup es=>eqDs ds es | _=>false
 | .lst ds,e=>match e with | .lst es=>eqDs ds es | _=>false
 | .ro ds,_=>false
 | .loc _,_=>false
 | .dic ks ds,e=>match e with | .dic ls es=>decide (ks=ls) && eqDs ds es | _=>false
 | .fdc _ _,_=>false
noncomputable def eqDs:List D→List D→Bool
 | [],es=>es.isEmpty
 | d :: ds,es=>match es with | []=>false | e :: es=>eqD d e && eqDs ds es
end
noncomputable def ltCs:List Nat→List Nat→Bool
 | _,[]=>false
 | [],_ :: _=>true
 | x :: xs,y :: ys=>if x=y then ltCs xs ys else decide (x < y)
noncomputable def sc2:D→Bool
 | .int _=>true
 | .str _=>true
 | _=>false
mutual
noncomputable def ltD:D→D→Option Bool
 | .int i,e=>match e with | .int j=>some (decide (i < j)) | _=>none
 | .str x,e=>match e with | .str y=>some (ltCs x y) | _=>none
 | .tup ds,e=>match e with | .tup es=>if (ds.all sc2 && es.all sc2)=true then ltDs ds es else none | _=>none
 | _,_=>none
noncomputable def ltDs:List D→List D→Option Bool
 | [],es=>some (!es.isEmpty)
 | d :: ds,es=>match es with
  | []=>some false
  | e :: es=>if eqD d e then ltDs ds es else ltD d e
end
noncomputable abbrev Itm:=Int×List Nat
noncomputable def itD (x:Itm):D:=.tup [.int x.1,.str x.2]
noncomputable def lt2 (x y:Itm):Bool:=if x.1=y.1 then ltCs x.2 y.2 else decide (x.1 < y.1)
noncomputable def seqOf (μ:Mem):D→Option (List D)
 | .lst ds=>some ds
 | .tup ds=>some ds
 | .ro ds=>some ds
 | .loc n=>match μ[n]? with | some (.lst ds)=>some ds | _=>none
 | _=>none
noncomputable def chars (x:List Nat):List D:=x.map fun c=>D.str [c]
noncomputable def lenOf (μ:Mem):D→Option Nat
 | .str x=>some x.length
 | d=>(seqOf μ d).map (·.length)
noncomputable def lstOf (μ:Mem):D→Option (List D)
 | .tup _=>none
 | d=>seqOf μ d
noncomputable def truth (μ:Mem):D→Option Bool
 | .non=>some false
 | .bl b=>some b
 | .int i=>some (i != 0)
 | .dic ks _=>some (ks.length != 0)
 | d=>(lenOf μ d).map (· != 0)
noncomputable def isTy (have_ want:String):Bool:=have_ == want || (have_ == "bool" && want == "int")
noncomputable def tyOf (μ:Mem):D→Option String
 | .non=>some "NoneType" | .bl _=>some "bool" | .int _=>some "int" | .str _=>some "str"
 | .tup _=>some "tuple" | .lst _=>some "list" | .dic _ _=>some "dict" | .ro _=>none | .fdc _ _=>none
 | .loc n=>match μ[n]? with | some (.lst _)=>some "list" | some (.dic _ _)=>some "dict" | _=>none
noncomputable def wIsin (t:String) (d:D) (μ:Mem) (Q:QD):Prop:=match tyOf μ d with
 | some h=>Q (.bl (isTy h t)) μ
 | none=>False
noncomputable def rangeL (lo:Int) (n:Nat):List D:=(List.range n).map fun (k:Nat)=>D.int (lo + (k:Int))
noncomputable def ixD (n:Nat) (i:Int):Option Nat:=if 0≤i then (if i < n then some i.toNat else none) else if -(n:Int)≤i then some (i + n).toNat else none
noncomputable def sIxD (n d:Nat):Option Int→Nat
 | none=>d
 | some v=>if v < 0 then (v + (n:Int)).toNat else min v.toNat n
noncomputable def cutD {α:Type} (xs:List α) (lo hi:Option Int):List α:=(xs.drop (sIxD xs.length 0 lo)).take (sIxD xs.length xs.length hi - sIxD xs.length 0 lo)
noncomputable def lim:Nat:=16777216
noncomputable def newL (m:Bool) (ds:List D) (μ:Mem) (Q:QD):Prop:=match m with
 | true=>Q (.loc μ.length) (μ ++ [.lst ds])
 | false=>Q (.lst ds) μ
noncomputable def CMulD (i j:Int):Prop:=(-(2 ^ 64) < i∧i < 2 ^ 64)∨(-(2 ^ 64) < j∧j < 2 ^ 64)
noncomputable def CDivD (j:Int):Prop:=0 < j∧j < 2 ^ 500
noncomputable def CPowD (i j:Int):Prop:=0≤j∧j≤1000000∧i.natAbs < 2 ^ 64
noncomputable def wBin (op:Operator) (x y:D) (μ:Mem) (Q:QD):Prop :=
 match x,y with
 | .int i,.int j=>match op with
  | .Add=>Q (.int (i + j)) μ
  | .Sub=>Q (.int (i - j)) μ
  | .Mult=>CMulD i j∧Q (.int (i * j)) μ
  | .FloorDiv=>CDivD j∧Q (.int (i / j)) μ
  | .Mod=>0 < j∧Q (.int (i % j)) μ
  | .Pow=>CPowD i j∧Q (.int (i ^ j.toNat)) μ
  | _=>False
 | .str a,.str b=>match op with
  | .Add=>a.length + b.length≤lim∧Q (.str (a ++ b)) μ
  | _=>False
 | .str a,.int k=>match op with
  | .Mult=>(2≤k∧k≤1000∧1≤a.length∧a.length≤1000)∧Q (.str (List.replicate k.toNat a).flatten) μ
  | _=>False
 | .lst a,.lst b=>match op with
  | .Add=>a.length + b.length≤lim∧Q (.lst (a ++ b)) μ
  | _=>False
 | .tup a,.tup b=>match op with
  | .Add=>a.length + b.length≤lim∧Q (.tup (a ++ b)) μ
  | _=>False
 | _,_=>False
noncomputable def isNon:D→Bool
 | .non=>true
 | _=>false
noncomputable def keyD:D→Option DKey
 | .int i=>some (.inl i)
 | .str x=>some (.inr x)
 | _=>none
noncomputable def keyDs:List D→Option (List DKey)
 | []=>some []
 | d :: ds=>match keyD d with | some k=>(keyDs ds).map (k :: ·) | none=>none
noncomputable def hasK {κ:Type} [DecidableEq κ] (ks:List κ) (k:κ):Bool:=decide (k∈ks)
theorem hasK_iff {κ:Type} [DecidableEq κ] {ks:List κ} {k:κ}:hasK ks k=true↔k∈ks:=by unfold hasK; simp
noncomputable def wInD (neg:Bool) (x y:D) (μ:Mem) (Q:QD):Prop:=match y with
 | .loc n=>(match μ[n]? with
  | some (.dic ks _)=>(match keyD x with | some k=>Q (.bl (neg != hasK ks k)) μ | none=>False)
  | some (.dtc ks _)=>(match x with | .tup es=>(match keyDs es with | some k=>Q (.bl (neg != hasK ks k)) μ | none=>False) | _=>False)
  | _=>False)
 | _=>False
noncomputable def wLenD (d:D) (μ:Mem) (Q:QD):Prop:=match d with
 | .loc n=>(match μ[n]? with | some (.dic ks _)=>Q (.int ks.length) μ | _=>False)
 | _=>False
noncomputable def wNeE (n:Nat) (y:D) (μ:Mem) (Q:QD):Prop:=match μ[n]? with
 | some (.lst ds)=>(match y with | .lst []=>Q (.bl (!ds.isEmpty)) μ | _=>False)
 | _=>False
noncomputable def wCmp (op:CmpOp) (x y:D) (μ:Mem) (Q:QD):Prop :=
 match op with
 | .Eq=>flat 60 x=true∧flat 60 y=true∧Q (.bl (eqD x y)) μ
 | .NotEq=>match x with
  | .loc n=>wNeE n y μ Q
  | x=>flat 60 x=true∧flat 60 y=true∧Q (.bl (!eqD x y)) μ
 | .Lt=>match ltD x y with | some b=>Q (.bl b) μ | none=>False
 | .LtE=>match x,y with
  | .int i,.int j=>Q (.bl (decide (i≤j))) μ
  | .str a,.str b=>Q (.bl (!ltCs b a)) μ
  | _,_=>False
 | .Gt=>match x,y with
  | .int i,.int j=>Q (.bl (decide (j < i))) μ
  | _,_=>False
 | .GtE=>match x,y with
  | .int i,.int j=>Q (.bl (decide (j≤i))) μ
  | _,_=>False
 | .Is=>match y with | .non=>Q (.bl (isNon x)) μ | .bl b=>(match x with | .bl a=>Q (.bl (a == b)) μ | _=>False) | _=>False
 | .IsNot=>match y with | .non=>Q (.bl (!isNon x)) μ | .bl b=>(match x with | .bl a=>Q (.bl (a != b)) μ | _=>False) | _=>False
 | .In=>match y with
  | .str t=>(match x with | .str a=>(match a with | [c]=>Q (.bl (t.contains c)) μ | _=>False) | _=>False)
  | y=>(match seqOf μ y with | some ds=>flats 60 ds=true∧flat 60 x=true∧Q (.bl (ds.any fun d=>eqD d x)) μ | none=>wInD false x y μ Q)
 | .NotIn=>match y with
  | .str t=>(match x with | .str a=>(match a with | [c]=>Q (.bl (!t.contains c)) μ | _=>False) | _=>False)
  | y=>(match seqOf μ y with | some ds=>flats 60 ds=true∧flat 60 x=true∧Q (.bl (!ds.any fun d=>eqD d x)) μ | none=>wInD true x y μ Q)
noncomputable def allB:List D→Option Bool
 | []=>some true
 | .bl b :: ds=>(allB ds).map (b && ·)
 | _ :: _=>none
noncomputable def intsD:List D→Option (List Int)
 | []=>some []
 | .int i :: ds=>(intsD ds).map (i :: ·)
 | _ :: _=>none
noncomputable def decS (i:Int):List Nat:=(Str.ofString (toString i)).cps.toList
noncomputable def knownB:List String:=["len","abs","all","max","min","divmod","str","int"]
noncomputable def wB3 (b:String) (d e f:D) (μ:Mem) (Q:QD):Prop:=match b with
 | "min3"=>(match d,e,f with | .int i,.int j,.int k=>Q (.int (min (min i j) k)) μ | _,_,_=>False)
 | _=>False
theorem wB3_no {b:String} {d e f:D} {μ:Mem} {Q:QD} (hb:b≠"min3"):¬ wB3 b d e f μ Q:=by
 unfold wB3
 split
 ·exact absurd rfl hb
 ·exact id
noncomputable def tI (l:List Int):D:=.tup (l.map .int)
noncomputable def wBlt (b:String) (ds:List D) (μ:Mem) (Q:QD):Prop :=
 match ds with
 | [d]=>match b with
  | "len"=>match lenOf μ d with | some n=>Q (.int n) μ | none=>wLenD d μ Q
  | "abs"=>match d with | .int i=>Q (.int (if i < 0 then -i else i)) μ | _=>False
  | "all"=>match (lstOf μ d).bind allB with | some r=>Q (.bl r) μ | none=>False
  | "max"=>match (lstOf μ d).bind intsD with | some (i :: is)=>Q (.int (is.foldl max i)) μ | _=>False
  | "min"=>match (lstOf μ d).bind intsD with | some (i :: is)=>Q (.int (is.foldl min i)) μ | _=>False
  | "str"=>match d with | .int i=>i.natAbs.log2 < 1920∧Q (.str (decS i)) μ | _=>False
  | "int"=>match d with | .int i=>Q (.int i) μ | .bl b=>Q (.int (if b then 1 else 0)) μ | .str x=>∃ n:Int,(x.length≤640∧intText? ⟨x.toArray⟩=some n)∧Q (.int n) μ | _=>False
  | _=>False
 | [d,e]=>match b with
  | "divmod"=>match d,e with | .int i,.int j=>CDivD j∧Q (.tup [.int (i / j),.int (i % j)]) μ | _,_=>False
  | "max"=>match d,e with | .int i,.int j=>Q (.int (if j > i then j else i)) μ | _,_=>False
  | "min"=>match d,e with | .int i,.int j=>Q (.int (if j < i then j else i)) μ | _,_=>False
  | _=>False
 | [d,e,f]=>wB3 b d e f μ Q
 | _=>False
noncomputable def dlook {κ:Type} [DecidableEq κ]:List κ→List D→κ→Option D
 | k' :: ks,d :: ds,k=>if k'=k then some d else dlook ks ds k
 | _,_,_=>none
noncomputable def wlOf (μ:Mem):D→Option (List D)
 | .lst ds=>some ds
 | .loc n=>match μ[n]? with | some (.lst ds)=>some ds | _=>none
 | _=>none
noncomputable def wCat (m:Bool) (x y:D) (μ:Mem) (Q:QD):Prop:=match wlOf μ x with
 | some as=>(match wlOf μ y with | some bs=>as.length + bs.length≤lim∧newL m (as ++ bs) μ Q | none=>False)
 | none=>False
noncomputable def isCell (μ:Mem):D→Bool
 | .loc n=>match μ[n]? with | some (.lst _)=>true | _=>false
 | _=>false
noncomputable def wMethL (m:String) (n:Nat) (xs:List D) (ds:List D) (μ:Mem) (Q:QD):Prop :=
 match ds with
 | []=>match m with
  | _=>False
 | [d]=>match m with
  | "append"=>xs.length < lim∧Q .non (μ.set n (.lst (xs ++ [d])))
  | _=>False
 | [.int k,d]=>match m with
  | _=>False
 | _=>False
noncomputable def wIsx (tab:List (String×Bool)) (d:D) (μ:Mem) (Q:QD):Prop:=match d with
 | .loc n=>(match μ[n]? with | some (.exc c _ _)=>(match tab.lookup c with | some b=>Q (.bl b) μ | none=>False) | _=>False)
 | _=>False
noncomputable def wMeth (m:String) (o:D) (ds:List D) (μ:Mem) (Q:QD):Prop :=
 match o with
 | .loc n=>match μ[n]? with
  | some (.lst xs)=>wMethL m n xs ds μ Q
  | _=>False
 | _=>False
noncomputable def strsD:List D→Option (List (List Nat))
 | []=>some []
 | .str x :: ds=>(strsD ds).map (x :: ·)
 | _ :: _=>none
noncomputable def txM (m:String):Bool:=["join","split","partition","startswith"].contains m
noncomputable def isTx:D→Bool
 | .str _=>true
 | _=>false
noncomputable def wTxt1 (m:String) (t:List Nat) (c:Nat) (μ:Mem) (Q:QD):Prop:=match m with
 | "split"=>(c < 256∧t.length < lim)∧∃ m:Bool,newL m ((splitC c t).map .str) μ Q
 | "partition"=>if c∈t then Q (.tup [.str (preC c t),.str [c],.str (postC c t)]) μ else Q (.tup [.str t,.str [],.str []]) μ
 | "startswith"=>Q (.bl (t.head? == some c)) μ
 | _=>False
noncomputable def wTxt (m:String) (x:D) (es:List D) (μ:Mem) (Q:QD):Prop:=match x with
 | .str t=>(match es with
  | [.str [c]]=>wTxt1 m t c μ Q
  | [d]=>(match (lstOf μ d).bind strsD with
   | some ws=>m = "join"∧(ws.map List.length).sum + ws.length * t.length≤lim∧Q (.str (joinC t ws)) μ
   | none=>False)
  | _=>False)
 | _=>False
noncomputable def isLs (μ:Mem):D→Bool
 | .lst _=>true
 | .loc n=>match μ[n]? with | some (.lst _)=>true | _=>false
 | _=>false
noncomputable def wSqk (m:String) (ns:List Int) (k:Int) (μ:Mem) (Q:QD):Prop:=match m with | "index"=>k∈ns∧Q (.int (ns.idxOf k:Nat)) μ | "count"=>Q (.int (ns.count k:Nat)) μ | _=>False
noncomputable def isDc (μ:Mem):D→Bool
 | .loc n=>match μ[n]? with | some (.dic _ _)=>true | _=>false
 | _=>false
noncomputable def isSq (m:String) (μ:Mem) (d:D):Bool:=if m = "get"∨m = "pop" then isDc μ d else if txM m=true then isTx d else isLs μ d
noncomputable def wDg2 (x:D) (es:List D) (μ:Mem) (Q:QD):Prop:=match x with
 | .loc n=>(match μ[n]? with
  | some (.dic ks ds)=>(match es with | [k,z]=>(match keyD k with | some q=>Q ((dlook ks ds q).getD z) μ | none=>False) | _=>False)
  | _=>False)
 | _=>False
noncomputable def ddropK {κ:Type} [DecidableEq κ]:List κ→κ→List κ
 | k' :: ks,k=>if k'=k then ddropK ks k else k' :: ddropK ks k
 | [],_=>[]
noncomputable def ddropV {κ:Type} [DecidableEq κ]:List κ→List D→κ→List D
 | k' :: ks,d :: ds,k=>if k'=k then ddropV ks ds k else d :: ddropV ks ds k
 | _,_,_=>[]
noncomputable def wDpo (x:D) (es:List D) (μ:Mem) (Q:QD):Prop:=match x with
 | .loc n=>(match μ[n]? with
  | some (.dic ks ds)=>(match es with | [k]=>(match keyD k with | some q=>(match dlook ks ds q with | some d=>Q d (μ.set n (.dic (ddropK ks q) (ddropV ks ds q))) | none=>False) | none=>False) | _=>False)
  | _=>False)
 | _=>False
noncomputable def wSqn (m:String) (x:D) (es:List D) (μ:Mem) (Q:QD):Prop:=match (lstOf μ x).bind intsD with
 | some ns=>(match es with
  | [.int k]=>wSqk m ns k μ Q
  | _=>False)
 | none=>False
noncomputable def wSqm (m:String) (x:D) (es:List D) (μ:Mem) (Q:QD):Prop:=if m = "get" then wDg2 x es μ Q else if m = "pop" then wDpo x es μ Q else if txM m=true then wTxt m x es μ Q else wSqn m x es μ Q
noncomputable def lkS (f:String):List String→List D→Option D
 | k :: ks,d :: ds=>if k=f then some d else lkS f ks ds
 | _,_=>none
noncomputable def wEfl (f:String) (tab:List String) (d:D) (μ:Mem) (Q:QD):Prop:=match d with
 | .loc n=>(match μ[n]? with | some (.exc c ks ds)=>tab.contains c=true∧(match lkS f ks ds with | some v=>Q v μ | none=>False) | _=>False)
 | _=>False
noncomputable def wIdx (x y:D) (μ:Mem) (Q:QD):Prop :=
 match x,y with
 | .str z,.int i=>match (ixD z.length i).bind (z[·]?) with | some c=>Q (.str [c]) μ | none=>False
 | x,.int i=>match seqOf μ x with
  | some ds=>match (ixD ds.length i).bind (ds[·]?) with | some d=>Q d μ | none=>False
  | none=>False
 | _,_=>False
noncomputable def wSlc (m:Bool) (x:D) (lo hi:Option Int) (μ:Mem) (Q:QD):Prop :=
 match x with
 | .lst ds=>newL m (cutD ds lo hi) μ Q
 | .str z=>((∀ i,lo=some i→0≤i)∧(∀ i,hi=some i→0≤i)∧sIxD z.length 0 lo≤sIxD z.length z.length hi)∧Q (.str (cutD z lo hi)) μ
 | .tup ds=>Q (.tup (cutD ds lo hi)) μ
 | .loc n=>match μ[n]? with | some (.lst ds)=>newL m (cutD ds lo hi) μ Q | _=>False
 | _=>False
noncomputable def wFrz (d:D) (μ:Mem) (Q:QD):Prop :=
 match d with
 | .loc n=>match μ[n]? with | some (.lst ds)=>Q (.lst ds) (μ.set n .gone) | some (.dic ks ds)=>Q (.fdc ks ds) (μ.set n .gone) | some (.dtc ks ds)=>∀ o,Q (.loc n) (μ.set n (.fdt o ks ds)) | some (.fdt _ _ _)=>Q (.loc n) μ | _=>False
 | d=>Q d μ
noncomputable def wTru (d:D) (μ:Mem) (Q:Bool→Mem→Prop):Prop:=match truth μ d with | some b=>Q b μ | none=>False
noncomputable def wBl (d:D) (μ:Mem) (Q:Bool→Mem→Prop):Prop:=match d with | .bl b=>Q b μ | _=>False
noncomputable def wInt (d:D) (μ:Mem) (Q:Int→Mem→Prop):Prop:=match d with | .int i=>Q i μ | _=>False
noncomputable abbrev QI:=List D→(Mem→Prop)→Mem→Prop
noncomputable def wSeq (d:D) (μ:Mem) (Q:QI):Prop :=
 match d with
 | .lst ds=>Q ds (fun _=>True) μ
 | .tup ds=>Q ds (fun _=>True) μ
 | .ro ds=>Q ds (fun _=>True) μ
 | .str x=>Q (chars x) (fun _=>True) μ
 | .fdc ks _=>∃ is:List Int,ks=is.map Sum.inl∧Q (is.map .int) (fun _=>True) μ
 | .loc n=>match μ[n]? with
  | some (.lst ds)=>Q ds (fun μ'=>μ'[n]? = some (.lst ds)) μ
  | some (.fdt o ks ds)=>∃ is:List (List Int),ks=is.map (fun l=>l.map Sum.inl)∧Q (is.map tI) (fun μ'=>μ'[n]? = some (.fdt o ks ds)) μ
  | _=>False
 | _=>False
noncomputable def wRng (n:Nat) (ds:List D) (μ:Mem) (Q:QI):Prop :=
 match n,ds with
 | 1,[.int j]=>j≤lim∧-(2 ^ 62)≤j∧Q (rangeL 0 j.toNat) (fun _=>True) μ
 | _,_=>False
noncomputable def zipD:List D→List D→List D
 | a :: as,b :: bs=>.tup [a,b] :: zipD as bs
 | _,_=>[]
noncomputable def wZip (x y:D) (μ:Mem) (Q:QI):Prop :=
 match lstOf μ x,lstOf μ y with
 | some as,some bs=>Q (zipD as bs) (fun μ'=>lstOf μ' x=some as∧lstOf μ' y=some bs) μ
 | none,some bs=>(match x with | .tup as=>as.length≤bs.length∧Q (zipD as bs) (fun μ'=>lstOf μ' y=some bs) μ | _=>False)
 | _,_=>False
noncomputable def enumD (k:Nat):List D→List D
 | []=>[]
 | d :: ds=>.tup [.int (k:Int),d] :: enumD (k + 1) ds
noncomputable def wEnum (x:D) (μ:Mem) (Q:QI):Prop:=match lstOf μ x with
 | some as=>Q (enumD 0 as) (fun μ'=>lstOf μ' x=some as) μ
 | none=>False
noncomputable def bindT (is:List Nat) (tt:Bool) (d:D) (ρ:Rho) (k:Rho→Prop):Prop :=
 match tt with
 | false=>match is with | [i]=>k (ρ.set i (some d)) | _=>False
 | true=>match d with | .tup ds=>ds.length=is.length∧k ((is.zip ds).foldl (fun r p=>r.set p.1 (some p.2)) ρ) | _=>False
noncomputable def bindC (n:Nat) (tt:Bool) (d:D) (r:Rho) (k:Rho→Prop):Prop :=
 match tt with
 | false=>k (some d :: r)
 | true=>match d with | .tup ds=>ds.length=n∧k (ds.map some ++ r) | _=>False
noncomputable def wComp (bnd:D→(Rho→Prop)→Prop) (cw:Rho→Mem→(Bool→Mem→Prop)→Prop) (ew:Rho→Mem→QD→Prop) (g:Mem→Prop):List D→List D→Mem→(List D→Mem→Prop)→Prop
 | [],acc,μ,Q=>g μ∧Q acc μ
 | d :: ds,acc,μ,Q=>g μ∧bnd d fun ρ=>cw ρ μ fun b μ1=>if b=true then ew ρ μ1 fun v μ2=>wComp bnd cw ew g ds (acc ++ [v]) μ2 Q else wComp bnd cw ew g ds acc μ1 Q
noncomputable def esLen:Es→Nat
 | .nil=>0
 | .cons _ es=>esLen es + 1
mutual
noncomputable def wE:E→Rho→Mem→QD→Prop
 | .var i,ρ,μ,Q=>match ρ[i]? with | some (some d)=>Q d μ | _=>False
 | .cst d,_,μ,Q=>Q d μ
 | .gbl _ d,_,μ,Q=>Q d μ
 | .bin op a b,ρ,μ,Q=>wE a ρ μ fun x μ1=>wE b ρ μ1 fun y μ2=>wBin op x y μ2 Q
 | .neg a,ρ,μ,Q=>wE a ρ μ fun x μ1=>match x with | .int i=>Q (.int (-i)) μ1 | _=>False
 | .not a,ρ,μ,Q=>wE a ρ μ fun x μ1=>wBl x μ1 fun b μ2=>Q (.bl (!b)) μ2
 | .cmp op a b,ρ,μ,Q=>wE a ρ μ fun x μ1=>wE b ρ μ1 fun y μ2=>wCmp op x y μ2 Q
 | .chain p q a b c,ρ,μ,Q=>wE a ρ μ fun x μ1=>wE b ρ μ1 fun y μ2=>wCmp p x y μ2 fun r μ3=>wBl r μ3 fun t μ3 =>
   if t=true then wE c ρ μ3 fun z μ4=>wCmp q y z μ4 Q else Q (.bl false) μ3
 | .and a b,ρ,μ,Q=>wE a ρ μ fun x μ1=>wBl x μ1 fun t μ2=>if t=true then wE b ρ μ2 Q else Q (.bl false) μ2
 | .or a b,ρ,μ,Q=>wE a ρ μ fun x μ1=>wBl x μ1 fun t μ2=>if t=true then Q (.bl true) μ2 else wE b ρ μ2 Q
 | .ife c a b,ρ,μ,Q=>wT c ρ μ fun t μ1=>if t=true then wE a ρ μ1 Q else wE b ρ μ1 Q
 | .call _ sp as,ρ,μ,Q=>wEs as ρ μ fun ds μ1=>sp ds μ1 Q
 | .blt x as,ρ,μ,Q=>wEs as ρ μ fun ds μ1=>wBlt x ds μ1 Q
 | .isin a t,ρ,μ,Q=>wE a ρ μ fun d μ1=>wIsin t d μ1 Q
 | .meth m o as,ρ,μ,Q=>wE o ρ μ fun x μ1=>isCell μ1 x=true∧wEs as ρ μ1 fun ds μ2=>wMeth m x ds μ2 Q
 | .sqm m o as,ρ,μ,Q=>wE o ρ μ fun x μ1=>isSq m μ1 x=true∧wEs as ρ μ1 fun ds μ2=>wSqm m x ds μ2 Q
 | .efl f tab o,ρ,μ,Q=>wE o ρ μ fun d μ1=>wEfl f tab d μ1 Q
 | .idx a b,ρ,μ,Q=>wE a ρ μ fun x μ1=>wE b ρ μ1 fun y μ2=>wIdx x y μ2 Q
 | .slc m a lo hi,ρ,μ,Q=>wE a ρ μ fun x μ1=>wO lo ρ μ1 fun l μ2=>wO hi ρ μ2 fun h μ3=>wSlc m x l h μ3 Q
 | .tup as,ρ,μ,Q=>wEs as ρ μ fun ds μ1=>ds.length≤lim∧Q (.tup ds) μ1
 | .lst m as,ρ,μ,Q=>wEs as ρ μ fun ds μ1=>ds.length≤lim∧newL m ds μ1 Q
 | .dsp ks as,ρ,μ,Q=>wEs as ρ μ fun ds μ1=>ks.length=ds.length∧Q (.loc μ1.length) (μ1 ++ [.dic ks ds])
 | .comp m n tt cap elt it cond,ρ,μ,Q=>wI it ρ μ fun ds g μ1 =>
   wComp (fun d k=>bindC n tt d (cap.map fun i=>(ρ[i]?).join) k) (fun ρ' μ' Q'=>wTs cond ρ' μ' Q') (fun ρ' μ' Q'=>wE elt ρ' μ' Q') g ds [] μ1 fun vs μ2=>newL m vs μ2 Q
 | .frz a,ρ,μ,Q=>wE a ρ μ fun d μ1=>wFrz d μ1 Q
 | .cat m a b,ρ,μ,Q=>wE a ρ μ fun x μ1=>wE b ρ μ1 fun y μ2=>wCat m x y μ2 Q
 | .isx a _ _ tab,ρ,μ,Q=>wE a ρ μ fun d μ1=>wIsx tab d μ1 Q
noncomputable def wEs:Es→Rho→Mem→(List D→Mem→Prop)→Prop
 | .nil,_,μ,Q=>Q [] μ
 | .cons e es,ρ,μ,Q=>wE e ρ μ fun d μ1=>wEs es ρ μ1 fun ds μ2=>Q (d :: ds) μ2
noncomputable def wO:Es→Rho→Mem→(Option Int→Mem→Prop)→Prop
 | .nil,_,μ,Q=>Q none μ
 | .cons e es,ρ,μ,Q=>wE e ρ μ fun d μ1=>match es with | .nil=>wInt d μ1 fun i μ2=>Q (some i) μ2 | _=>False
noncomputable def wT:E→Rho→Mem→(Bool→Mem→Prop)→Prop
 | .not a,ρ,μ,Q=>wT a ρ μ fun b μ1=>Q (!b) μ1
 | .and a b,ρ,μ,Q=>wT a ρ μ fun t μ1=>if t=true then wT b ρ μ1 Q else Q false μ1
 | .or a b,ρ,μ,Q=>wT a ρ μ fun t μ1=>if t=true then Q true μ1 else wT b ρ μ1 Q
 | .var i,ρ,μ,Q=>match ρ[i]? with | some (some d)=>wTru d μ Q | _=>False
 | .cst d,_,μ,Q=>wTru d μ Q
 | .cmp op a b,ρ,μ,Q=>wE a ρ μ fun x μ1=>wE b ρ μ1 fun y μ2=>wCmp op x y μ2 fun r μ3=>wBl r μ3 Q
 | .chain p q a b c,ρ,μ,Q=>wE a ρ μ fun x μ1=>wE b ρ μ1 fun y μ2=>wCmp p x y μ2 fun r μ3=>wBl r μ3 fun t μ3 =>
   if t=true then wE c ρ μ3 fun z μ4=>wCmp q y z μ4 fun r μ5=>wBl r μ5 Q else Q false μ3
 | .call _ sp as,ρ,μ,Q=>wEs as ρ μ fun ds μ1=>sp ds μ1 fun d μ2=>wTru d μ2 Q
 | .idx a b,ρ,μ,Q=>wE a ρ μ fun x μ1=>wE b ρ μ1 fun y μ2=>wIdx x y μ2 fun d μ3=>wTru d μ3 Q
 | .blt x as,ρ,μ,Q=>wEs as ρ μ fun ds μ1=>wBlt x ds μ1 fun d μ2=>wTru d μ2 Q
 | .sqm m o as,ρ,μ,Q=>wE o ρ μ fun x μ1=>isSq m μ1 x=true∧wEs as ρ μ1 fun ds μ2=>wSqm m x ds μ2 fun d μ3=>wTru d μ3 Q
 | .isin a t,ρ,μ,Q=>wE a ρ μ fun d μ1=>wIsin t d μ1 fun r μ2=>wBl r μ2 Q
 | .isx a _ _ tab,ρ,μ,Q=>wE a ρ μ fun d μ1=>wIsx tab d μ1 fun r μ2=>wBl r μ2 Q
 | _,_,_,_=>False
noncomputable def wTs:Es→Rho→Mem→(Bool→Mem→Prop)→Prop
 | .nil,_,μ,Q=>Q true μ
 | .cons e es,ρ,μ,Q=>wT e ρ μ fun b μ1=>match es with | .nil=>Q b μ1 | _=>False
noncomputable def wI:It→Rho→Mem→QI→Prop
 | .seq e,ρ,μ,Q=>wE e ρ μ fun d μ1=>wSeq d μ1 Q
 | .rng as,ρ,μ,Q=>wEs as ρ μ fun ds μ1=>wRng (esLen as) ds μ1 Q
 | .zip a b,ρ,μ,Q=>wE a ρ μ fun x μ1=>wE b ρ μ1 fun y μ2=>wZip x y μ2 Q
 | .enum a,ρ,μ,Q=>wE a ρ μ fun x μ1=>wEnum x μ1 Q
end
structure DEnds where
 nx:Rho→Mem→Prop
 rt:QD
 bk:Rho→Mem→Prop:=fun _ _=>False
 ct:Rho→Mem→Prop:=fun _ _=>False
 xc:Rho→QX:=fun _ _ _ _ _=>False
noncomputable def wLoop (bnd:D→Rho→(Rho→Prop)→Prop) (bw:DEnds→Rho→Mem→Prop) (g:Mem→Prop) (Z:DEnds):List D→Rho→Mem→Prop
 | [],ρ,μ=>g μ∧Z.nx ρ μ
 | d :: ds,ρ,μ=>g μ∧bnd d ρ fun ρ'=>bw { Z with nx:=wLoop bnd bw g Z ds,ct:=wLoop bnd bw g Z ds,bk:=Z.nx } ρ' μ
noncomputable def wSetIx (o i v:D) (μ:Mem) (k:Mem→Prop):Prop :=
 match o,i with
 | .loc n,.int j=>match μ[n]? with
  | some (.lst xs)=>match ixD xs.length j with | some p=>k (μ.set n (.lst (xs.set p v))) | none=>False
  | _=>False
 | _,_=>False
noncomputable def wXC:XC→(Rho→QX)→Rho→Mem→QD→Prop
 | .fn _ sp as,X,ρ,μ,Q=>wEs as ρ μ fun ds μ1=>sp ds μ1 Q (X ρ)
mutual
noncomputable def wS:S→DEnds→Rho→Mem→Prop
 | .set i e,Z,ρ,μ=>wE e ρ μ fun d μ1=>Z.nx (ρ.set i (some d)) μ1
 | .setT is e,Z,ρ,μ=>wE e ρ μ fun d μ1=>bindT is true d ρ fun ρ'=>Z.nx ρ' μ1
 | .setIx o i e,Z,ρ,μ=>wE e ρ μ fun v μ1=>wE o ρ μ1 fun x μ2=>wE i ρ μ2 fun y μ3=>wSetIx x y v μ3 fun μ4=>Z.nx ρ μ4
 | .exp e,Z,ρ,μ=>wE e ρ μ fun _ μ1=>Z.nx ρ μ1
 | .ret e,Z,ρ,μ=>wE e ρ μ Z.rt
 | .ite c a b,Z,ρ,μ=>wT c ρ μ fun t μ1=>if t=true then wSs a Z ρ μ1 else wSs b Z ρ μ1
 | .for_ tg tt it b,Z,ρ,μ=>wI it ρ μ fun ds g μ1=>wLoop (fun d r k=>bindT tg tt d r k) (fun Z' r m=>wSs b Z' r m) g Z ds ρ μ1
 | .nev,_,_,_=>False
 | .setX i c,Z,ρ,μ=>wXC c Z.xc ρ μ fun d μ1=>Z.nx (ρ.set i (some d)) μ1
 | .raisI c ks as,Z,ρ,μ=>wEs as ρ μ fun ds μ1=>ds.length=ks.length∧Z.xc ρ c ks ds μ1
 | .tryx _ tab i b h,Z,ρ,μ=>wSs b { Z with xc:=fun ρ' c ks ds μ'=>tab.contains c=true∧wSs h { nx:=fun _ _=>False,rt:=Z.rt } (ρ'.set i (some (.loc μ'.length))) (μ' ++ [.exc c ks ds]) } ρ μ
noncomputable def wSs:Ss→DEnds→Rho→Mem→Prop
 | .nil,Z,ρ,μ=>Z.nx ρ μ
 | .cons s r,Z,ρ,μ=>wS s { Z with nx:=fun ρ' μ'=>wSs r Z ρ' μ' } ρ μ
end
end DW
end
section
set_option autoImplicit false
namespace DW
open PySem
noncomputable def startD (N:List Str) (ds:List D):Rho:=ds.map some ++ List.replicate (N.length - ds.length) none
noncomputable def topZ (Q:QD):DEnds:=⟨fun _ μ=>Q .non μ,Q,fun _ _=>False,fun _ _=>False,fun _ _ _ _ _=>False⟩
noncomputable def topZX (Q:QD) (X:QX):DEnds:=⟨fun _ μ=>Q .non μ,Q,fun _ _=>False,fun _ _=>False,fun _=>X⟩
noncomputable def Keeps (N:List Str) (i:Ss) (sp:DSp):Prop:=∀ ds μ Q,sp ds μ Q→wSs i (topZ Q) (startD N ds) μ
noncomputable def KeepsX (N:List Str) (i:Ss) (sp:DSpX):Prop:=∀ ds μ Q X,sp ds μ Q X→wSs i (topZX Q X) (startD N ds) μ
noncomputable def calmSp (sp:DSpX):DSp:=fun ds μ Q=>sp ds μ Q fun _ _ _ _=>False
noncomputable def spLaw:DSp:=fun ds μ Q=>∃ ns:List Int,ds=[.ro (ns.map D.int)]∧ns.length≤63∧∀ μ',Q (.bl true) μ'
theorem wLoop_inv {bnd:D→Rho→(Rho→Prop)→Prop} {bw:DEnds→Rho→Mem→Prop} {g:Mem→Prop} {Z:DEnds} (Inv:List D→Rho→Mem→Prop)
  (hs:∀ d ds ρ μ N,(∀ ρ μ,Inv ds ρ μ→N ρ μ)→Inv (d :: ds) ρ μ→g μ∧bnd d ρ fun ρ'=>bw { Z with nx:=N,ct:=N,bk:=Z.nx } ρ' μ)
  (he:∀ ρ μ,Inv [] ρ μ→g μ∧Z.nx ρ μ):∀ (ds:List D) (ρ:Rho) (μ:Mem),Inv ds ρ μ→wLoop bnd bw g Z ds ρ μ
 | [],ρ,μ,h=>he ρ μ h
 | d :: ds,ρ,μ,h=>hs d ds ρ μ _ (fun ρ μ q=>wLoop_inv Inv hs he ds ρ μ q) h
theorem wComp_inv {bnd:D→(Rho→Prop)→Prop} {cw:Rho→Mem→(Bool→Mem→Prop)→Prop} {ew:Rho→Mem→QD→Prop} {g:Mem→Prop} {Q:List D→Mem→Prop} (Inv:List D→List D→Mem→Prop)
  (hs:∀ d ds acc μ (Y:D→Mem→Prop) (N:Mem→Prop),(∀ v μ,Inv ds (acc ++ [v]) μ→Y v μ)→(∀ μ,Inv ds acc μ→N μ)→Inv (d :: ds) acc μ→g μ∧bnd d fun ρ=>cw ρ μ fun b μ1=>if b=true then ew ρ μ1 (fun v μ2=>Y v μ2) else N μ1)
  (he:∀ acc μ,Inv [] acc μ→g μ∧Q acc μ):∀ (ds acc:List D) (μ:Mem),Inv ds acc μ→wComp bnd cw ew g ds acc μ Q
 | [],acc,μ,h=>he acc μ h
 | d :: ds,acc,μ,h=>hs d ds acc μ (fun v μ2=>wComp bnd cw ew g ds (acc ++ [v]) μ2 Q) (fun μ1=>wComp bnd cw ew g ds acc μ1 Q) (fun v μ q=>wComp_inv Inv hs he ds (acc ++ [v]) μ q) (fun μ q=>wComp_inv Inv hs he ds acc μ q) h
theorem wComp_mapL {α:Type} {bnd:D→(Rho→Prop)→Prop} {cw:Rho→Mem→(Bool→Mem→Prop)→Prop} {ew:Rho→Mem→QD→Prop} {g:Mem→Prop} {Q:List D→Mem→Prop} {μ:Mem} (c:α→D) (p:α→Bool) (f:α→D) (hg:g μ) :
  ∀ (l:List α) (acc:List D),(∀ x∈l,∀ (Y:D→Mem→Prop) (N:Mem→Prop),(if p x=true then Y (f x) μ else N μ)→bnd (c x) fun ρ=>cw ρ μ fun b μ1=>if b=true then ew ρ μ1 (fun v μ2=>Y v μ2) else N μ1) →
   Q (acc ++ (l.filter p).map f) μ→wComp bnd cw ew g (l.map c) acc μ Q
 | [],acc,_,h=>⟨hg,by simpa using h⟩
 | d :: ds,acc,hs,h=>by
  refine ⟨hg,hs d (by simp) (fun v μ2=>wComp bnd cw ew g (ds.map c) (acc ++ [v]) μ2 Q) (fun μ1=>wComp bnd cw ew g (ds.map c) acc μ1 Q) ?_⟩
  by_cases q:p d=true
  ·rw [if_pos q]
   refine wComp_mapL c p f hg ds _ (fun e he=>hs e (by simp [he])) ?_
   rw [List.filter_cons_of_pos q] at h
   simpa using h
  ·rw [if_neg q]
   refine wComp_mapL c p f hg ds _ (fun e he=>hs e (by simp [he])) ?_
   rw [List.filter_cons_of_neg q] at h
   exact h
theorem wComp_mapT {α:Type} {bnd:D→(Rho→Prop)→Prop} {cw:Rho→Mem→(Bool→Mem→Prop)→Prop} {ew:Rho→Mem→QD→Prop} {g:Mem→Prop} {Q:List D→Mem→Prop} {μ:Mem} (c:α→D) (f:α→D) (hg:g μ)
  (l:List α) (acc:List D) (hs:∀ x∈l,∀ (Y:D→Mem→Prop) (N:Mem→Prop),Y (f x) μ→bnd (c x) fun ρ=>cw ρ μ fun b μ1=>if b=true then ew ρ μ1 (fun v μ2=>Y v μ2) else N μ1)
  (h:Q (acc ++ l.map f) μ):wComp bnd cw ew g (l.map c) acc μ Q :=
 wComp_mapL c (fun _=>true) f hg l acc (fun x hx Y N q=>hs x hx Y N (by simpa using q)) (by rw [List.filter_eq_self.mpr (by simp)]; exact h)
theorem ixD_nat {n k:Nat} (h:k < n):ixD n (k:Int)=some k:=by
 have:(k:Int) < n:=by omega
 simp [ixD,this]
theorem ixD_lt {n:Nat} {i:Int} (h0:0≤i) (h:i < n):ixD n i=some i.toNat:=by simp [ixD,h0,h]
theorem cutD_from {α:Type} (xs:List α) {i:Int} (h:0≤i):cutD xs (some i) none=xs.drop i.toNat:=by
 have h2:¬ i < 0:=by omega
 simp only [cutD,sIxD,h2,if_false]
 by_cases q:i.toNat≤xs.length
 ·rw [Nat.min_eq_left q]; exact List.take_of_length_le (by simp)
 ·rw [List.drop_eq_nil_of_le (by omega),List.drop_eq_nil_of_le (by omega)]; simp
theorem cutD_to {α:Type} (xs:List α) {i:Int} (h:0≤i):cutD xs none (some i)=xs.take i.toNat:=by
 have h2:¬ i < 0:=by omega
 simp only [cutD,sIxD,h2,if_false,List.drop_zero,Nat.sub_zero]
 by_cases q:i.toNat≤xs.length
 ·rw [Nat.min_eq_left q]
 ·rw [List.take_of_length_le (by omega),List.take_of_length_le (by omega)]
theorem rangeL_mem {lo:Int} {n:Nat} {d:D} (h:d∈rangeL lo n):∃ i:Int,d = .int i∧lo≤i∧i < lo + n:=by
 simp only [rangeL,List.mem_map,List.mem_range] at h
 obtain ⟨j,hj,rfl⟩:=h
 exact ⟨_,rfl,by omega,by omega⟩
end DW
end
section
set_option autoImplicit false
namespace DW
open PySem PySem.Spec PyProof.Rows L2
noncomputable def keyOf:DKey→Key
 | .inl i=>.inl i
 | .inr x=>.inr ⟨x.toArray⟩
noncomputable def KL (K:PySem.W.Frag) (a:Addr) (xs:List V):Prop :=
 ∃ (o:Obj) (its:Array Value) (n:Nat),K.lookup a=some o∧o.cls = .type "list"∧o.dict=none∧o.data = .seq its n∧its.size≤sizeLine∧Vals xs its.toList
section
variable (K:PySem.W.Frag) (H:Hp) (θ:List Addr) (L:Addr→Prop)
mutual
noncomputable def Rep:D→V→Prop
 | .non,v=>v = .non
 | .bl b,v=>v = .bl b
 | .int i,v=>v = .int i
 | .str x,v=>v = .str ⟨x.toArray⟩∧x.length≤sizeLine
 | .tup ds,v=>∃ a xs,v = .ref a∧H a=some (.tup xs)∧¬ L a∧Reps ds xs
 | .lst ds,v=>∃ a xs,v = .ref a∧H a=some (.lst xs)∧¬ L a∧Reps ds xs
 | .ro ds,v=>∃ a xs,v = .ref a∧((∃ o,H a=some (.frz o (.lst xs))∧¬ L a)∨KL K a xs)∧Reps ds xs
 | .loc n,v=>∃ a,v = .ref a∧θ[n]? = some a
 | .dic ks ds,v=>∃ a kvs,v = .ref a∧H a=some (.dK kvs)∧¬ L a∧kvs.map (·.1)=ks.map keyOf∧Reps ds (kvs.map (·.2))
 | .fdc ks ds,v=>∃ a o kvs,v = .ref a∧H a=some (.frz o (.dK kvs))∧¬ L a∧kvs.map (·.1)=ks.map keyOf∧Reps ds (kvs.map (·.2))
noncomputable def Reps:List D→List V→Prop
 | [],vs=>vs=[]
 | d :: ds,vs=>∃ v r,vs=v :: r∧Rep d v∧Reps ds r
end
end
section
variable {K:PySem.W.Frag} {H H':Hp} {θ θ':List Addr} {L L':Addr→Prop}
mutual
theorem Rep.mono (hp:∀ (n:Nat) (a:Addr),θ[n]? = some a→θ'[n]? = some a) (hk:∀ a o,H a=some o→¬ L a→H' a=some o∧¬ L' a) :
  ∀ (d:D) (v:V),Rep K H θ L d v→Rep K H' θ' L' d v
 | .non,v,h=>by unfold Rep at *; exact h
 | .bl b,v,h=>by unfold Rep at *; exact h
 | .int i,v,h=>by unfold Rep at *; exact h
 | .str x,v,h=>by unfold Rep at *; exact h
 | .tup ds,v,h=>by
  unfold Rep at *
  obtain ⟨a,xs,e,h1,h2,h3⟩:=h
  exact ⟨a,xs,e,(hk a _ h1 h2).1,(hk a _ h1 h2).2,Reps.mono hp hk ds xs h3⟩
 | .lst ds,v,h=>by
  unfold Rep at *
  obtain ⟨a,xs,e,h1,h2,h3⟩:=h
  exact ⟨a,xs,e,(hk a _ h1 h2).1,(hk a _ h1 h2).2,Reps.mono hp hk ds xs h3⟩
 | .ro ds,v,h=>by
  unfold Rep at *
  obtain ⟨a,xs,e,h1,h3⟩:=h
  refine ⟨a,xs,e,?_,Reps.mono hp hk ds xs h3⟩
  rcases h1 with ⟨o,h1,h2⟩ | h1
  ·exact .inl ⟨o,(hk a _ h1 h2).1,(hk a _ h1 h2).2⟩
  ·exact .inr h1
 | .loc n,v,h=>by
  unfold Rep at *
  obtain ⟨a,e,h1⟩:=h
  exact ⟨a,e,hp n a h1⟩
 | .dic ks ds,v,h=>by
  unfold Rep at *
  obtain ⟨a,kvs,e,h1,h2,h3,h4⟩:=h
  exact ⟨a,kvs,e,(hk a _ h1 h2).1,(hk a _ h1 h2).2,h3,Reps.mono hp hk ds _ h4⟩
 | .fdc ks ds,v,h=>by
  unfold Rep at *
  obtain ⟨a,o,kvs,e,h1,h2,h3,h4⟩:=h
  exact ⟨a,o,kvs,e,(hk a _ h1 h2).1,(hk a _ h1 h2).2,h3,Reps.mono hp hk ds _ h4⟩
theorem Reps.mono (hp:∀ (n:Nat) (a:Addr),θ[n]? = some a→θ'[n]? = some a) (hk:∀ a o,H a=some o→¬ L a→H' a=some o∧¬ L' a) :
  ∀ (ds:List D) (vs:List V),Reps K H θ L ds vs→Reps K H' θ' L' ds vs
 | [],vs,h=>by unfold Reps at *; exact h
 | d :: ds,vs,h=>by
  unfold Reps at *
  obtain ⟨v,r,e,h1,h2⟩:=h
  exact ⟨v,r,e,Rep.mono hp hk d v h1,Reps.mono hp hk ds r h2⟩
end
theorem Reps.nil:Reps K H θ L [] []:=by unfold Reps; rfl
theorem Reps.cons {d:D} {ds:List D} {v:V} {vs:List V} (h:Rep K H θ L d v) (r:Reps K H θ L ds vs):Reps K H θ L (d :: ds) (v :: vs):=by
 unfold Reps; exact ⟨v,vs,rfl,h,r⟩
theorem Reps.nil_inv {vs:List V} (h:Reps K H θ L [] vs):vs=[]:=by unfold Reps at h; exact h
theorem Reps.cons_inv {d:D} {ds:List D} {vs:List V} (h:Reps K H θ L (d :: ds) vs):∃ v r,vs=v :: r∧Rep K H θ L d v∧Reps K H θ L ds r:=by
 unfold Reps at h; exact h
theorem Reps.length:∀ {ds:List D} {vs:List V},Reps K H θ L ds vs→ds.length=vs.length
 | [],vs,h=>by rw [h.nil_inv]; rfl
 | d :: ds,vs,h=>by
  obtain ⟨v,r,rfl,_,h2⟩:=h.cons_inv
  simp [h2.length]
theorem Reps.get:∀ {ds:List D} {vs:List V} {i:Nat} {d:D},Reps K H θ L ds vs→ds[i]? = some d→∃ v,vs[i]? = some v∧Rep K H θ L d v
 | [],_,_,_,_,e=>by simp at e
 | d :: ds,vs,i,d',h,e=>by
  obtain ⟨v,r,rfl,h1,h2⟩:=h.cons_inv
  cases i with
  | zero=>simp at e; subst e; exact ⟨v,rfl,h1⟩
  | succ i =>
   obtain ⟨w,e1,e2⟩:=Reps.get (i:=i) h2 (by simpa using e)
   exact ⟨w,by simpa using e1,e2⟩
theorem Reps.append:∀ {ds es:List D} {vs ws:List V},Reps K H θ L ds vs→Reps K H θ L es ws→Reps K H θ L (ds ++ es) (vs ++ ws)
 | [],_,_,_,h,k=>by rw [h.nil_inv]; exact k
 | d :: ds,_,_,_,h,k=>by
  obtain ⟨v,r,rfl,h1,h2⟩:=h.cons_inv
  exact Reps.cons h1 (h2.append k)
theorem Reps.take:∀ {ds:List D} {vs:List V} (n:Nat),Reps K H θ L ds vs→Reps K H θ L (ds.take n) (vs.take n)
 | _,_,0,_=>by simpa using Reps.nil
 | [],_,n + 1,h=>by rw [h.nil_inv]; simpa using Reps.nil
 | d :: ds,_,n + 1,h=>by
  obtain ⟨v,r,rfl,h1,h2⟩:=h.cons_inv
  exact Reps.cons h1 (h2.take n)
theorem Reps.drop:∀ {ds:List D} {vs:List V} (n:Nat),Reps K H θ L ds vs→Reps K H θ L (ds.drop n) (vs.drop n)
 | _,_,0,h=>h
 | [],_,n + 1,h=>by rw [h.nil_inv]; simpa using Reps.nil
 | d :: ds,_,n + 1,h=>by
  obtain ⟨v,r,rfl,h1,h2⟩:=h.cons_inv
  exact h2.drop n
theorem Reps.set {d':D} {v':V} (hd:Rep K H θ L d' v'):∀ {ds:List D} {vs:List V} (n:Nat),Reps K H θ L ds vs→Reps K H θ L (ds.set n d') (vs.set n v')
 | [],_,n,h=>by rw [h.nil_inv]; simpa using Reps.nil
 | d :: ds,_,0,h=>by
  obtain ⟨v,r,rfl,h1,h2⟩:=h.cons_inv
  exact Reps.cons hd h2
 | d :: ds,_,n + 1,h=>by
  obtain ⟨v,r,rfl,h1,h2⟩:=h.cons_inv
  exact Reps.cons h1 (h2.set hd n)
theorem Reps.one {d:D} {v:V} (h:Rep K H θ L d v):Reps K H θ L [d] [v]:=Reps.cons h Reps.nil
end
noncomputable def Live (θ:List Addr) (μ:Mem) (a:Addr):Prop:=∃ (n:Nat) (c:Cell),θ[n]? = some a∧μ[n]? = some c∧c≠.gone
noncomputable abbrev Rp (K:PySem.W.Frag) (H:Hp) (θ:List Addr) (μ:Mem):D→V→Prop:=Rep K H θ (Live θ μ)
noncomputable abbrev Rps (K:PySem.W.Frag) (H:Hp) (θ:List Addr) (μ:Mem):List D→List V→Prop:=Reps K H θ (Live θ μ)
noncomputable def ExcAt (x C:Addr) (h:Heap):Prop:=∃ o,h.get? x=some o∧o.cls = .ref C
noncomputable def DcO (a:Addr) (fs:List (Str×V)):HO:=.ext fun h=>∃ mA,h.Ns1 a mA∧(∀ f,RelO (fs.lookup f) (mA f))∧PySem.Within mA (fs.map (·.1))
noncomputable def ErrD (K:PySem.W.Frag) (H:Hp) (θ:List Addr) (μ:Mem) (ks:List String) (ds:List D) (dx:Option Addr):Prop :=
 (ks=[]∧dx=none)∨(ks≠[]∧∃ x fs,dx=some x∧H x=some (DcO x fs)∧¬ Live θ μ x∧fs.map (·.1)=ks.map (fun k=>Str.ofString k)∧Rps K H θ μ ds (fs.map (·.2)))
noncomputable def CellOk (K:PySem.W.Frag) (H:Hp) (θ:List Addr) (μ:Mem) (a:Addr):Cell→Prop
 | .lst ds=>∃ xs,H a=some (.lst xs)∧Rps K H θ μ ds xs
 | .ins c fs=>∃ C dx fs',PySem.W.nsIn K mainGlobals (Str.ofString c)=some (some (.ref C))∧H a=some (.ins C dx fs')∧fs'.map (·.1)=fs.map (fun p=>Str.ofString p.1)∧Rps K H θ μ (fs.map (·.2)) (fs'.map (·.2))
 | .dic ks ds=>∃ kvs,H a=some (.dK kvs)∧kvs.map (·.1)=ks.map keyOf∧Rps K H θ μ ds (kvs.map (·.2))
 | .dtc ks ds=>∃ kvs,H a=some (.dT kvs)∧kvs.map (·.1)=ks.map (·.map keyOf)∧Rps K H θ μ ds (kvs.map (·.2))
 | .fdt o ks ds=>∃ kvs,H a=some (.frz o (.dT kvs))∧kvs.map (·.1)=ks.map (·.map keyOf)∧Rps K H θ μ ds (kvs.map (·.2))
 | .exc c ks ds=>∃ C o u,PySem.W.nsIn K mainGlobals (Str.ofString c)=some (some (.ref C))∧H a=some (.frz o u)∧o.cls = .ref C∧PySem.W.notCls o=true∧ErrD K H θ μ ks ds o.dict
 | .gone=>True
structure WOk (K:PySem.W.Frag) (H:Hp) (θ:List Addr) (μ:Mem):Prop where
 len:θ.length=μ.length
 inj:∀ (m n:Nat) (a:Addr),θ[m]? = some a→θ[n]? = some a→m=n
 bnd:∀ (n:Nat) (a:Addr),θ[n]? = some a→H a≠none
 cell:∀ (n:Nat) (c:Cell) (a:Addr),μ[n]? = some c→θ[n]? = some a→CellOk K H θ μ a c
structure Grow (H:Hp) (θ:List Addr) (μ:Mem) (H':Hp) (θ':List Addr) (μ':Mem):Prop where
 pre:∀ (n:Nat) (a:Addr),θ[n]? = some a→θ'[n]? = some a
 keep:∀ a o,H a=some o→¬ Live θ μ a→H' a=some o∧¬ Live θ' μ' a
section
variable {K:PySem.W.Frag} {H H' H'':Hp} {θ θ' θ'':List Addr} {μ μ' μ'':Mem} {p a:Addr} {n:Nat} {ds:List D} {xs:List V} {d:D} {v:V}
theorem Grow.refl:Grow H θ μ H θ μ:=⟨fun _ _ h=>h,fun _ _ h k=>⟨h,k⟩⟩
theorem Grow.trans (g:Grow H θ μ H' θ' μ') (g':Grow H' θ' μ' H'' θ'' μ''):Grow H θ μ H'' θ'' μ'' :=
 ⟨fun n a h=>g'.pre n a (g.pre n a h),fun a o h k=>let ⟨x,y⟩:=g.keep a o h k; g'.keep a o x y⟩
theorem Grow.rep (g:Grow H θ μ H' θ' μ') (h:Rp K H θ μ d v):Rp K H' θ' μ' d v:=Rep.mono g.pre g.keep d v h
theorem Grow.reps (g:Grow H θ μ H' θ' μ') (h:Rps K H θ μ ds xs):Rps K H' θ' μ' ds xs:=Reps.mono g.pre g.keep ds xs h
theorem WOk.notIn (w:WOk K H θ μ) (hp:H p=none) (n:Nat):θ[n]?≠some p:=fun e=>w.bnd n p e hp
theorem WOk.notLive (w:WOk K H θ μ) (hp:H p=none):¬ Live θ μ p:=fun ⟨n,_,e,_⟩=>w.notIn hp n e
theorem Grow.ext (e:∀ a o,H a=some o→H' a=some o):Grow H θ μ H' θ μ:=⟨fun _ _ h=>h,fun a o h k=>⟨e a o h,k⟩⟩
theorem ErrD.mono {ks:List String} {dx:Option Addr} (kp:Grow H θ μ H' θ' μ') (h:ErrD K H θ μ ks ds dx):ErrD K H' θ' μ' ks ds dx:=by
 rcases h with h | ⟨h0,x,fs,h1,h2,h3,h4,h5⟩
 ·exact .inl h
 ·exact .inr ⟨h0,x,fs,h1,(kp.keep x _ h2 h3).1,(kp.keep x _ h2 h3).2,h4,kp.reps h5⟩
theorem CellOk.mono {c:Cell} (kp:Grow H θ μ H' θ' μ') (e:∀ o,H a=some o→H' a=some o) (h:CellOk K H θ μ a c):CellOk K H' θ' μ' a c:=by
 cases c with
 | lst ds=>obtain ⟨xs,h1,h2⟩:=h; exact ⟨xs,e _ h1,kp.reps h2⟩
 | ins c fs=>obtain ⟨C,dx,fs',h0,h1,h2,h3⟩:=h; exact ⟨C,dx,fs',h0,e _ h1,h2,kp.reps h3⟩
 | dic ks ds=>obtain ⟨kvs,h1,h2,h3⟩:=h; exact ⟨kvs,e _ h1,h2,kp.reps h3⟩
 | dtc ks ds=>obtain ⟨kvs,h1,h2,h3⟩:=h; exact ⟨kvs,e _ h1,h2,kp.reps h3⟩
 | fdt o ks ds=>obtain ⟨kvs,h1,h2,h3⟩:=h; exact ⟨kvs,e _ h1,h2,kp.reps h3⟩
 | exc c ks ds=>obtain ⟨C,o,u,h1,h2,h3,h5,h4⟩:=h; exact ⟨C,o,u,h1,e _ h2,h3,h5,h4.mono kp⟩
 | gone=>trivial
theorem WOk.ext (w:WOk K H θ μ) (e:∀ a o,H a=some o→H' a=some o):WOk K H' θ μ where
 len:=w.len
 inj:=w.inj
 bnd:=fun n a h k=>by
  cases q:H a with
  | none=>exact w.bnd n a h q
  | some o=>rw [e a o q] at k; cases k
 cell:=fun n c a h k=>(w.cell n c a h k).mono (Grow.ext e) (e a)
theorem ext_upd {o:HO} (hp:H p=none):∀ a u,H a=some u→(upd H p o) a=some u:=fun a u h=>by
 rw [upd_ne (ne_of_none h hp)]; exact h
theorem get_snoc_lt {α:Type} {l:List α} {x y:α} {n:Nat} (h:l[n]? = some y):(l ++ [x])[n]? = some y:=by
 have hl:n < l.length:=(List.getElem?_eq_some_iff.mp h).1
 rw [List.getElem?_append_left hl]; exact h
theorem get_snoc {α:Type} {l:List α} {x y:α} {n:Nat} (h:(l ++ [x])[n]? = some y):l[n]? = some y∨(n=l.length∧x=y):=by
 by_cases hn:n < l.length
 ·rw [List.getElem?_append_left hn] at h; exact .inl h
 ·rw [List.getElem?_append_right (by omega)] at h
  have:n - l.length=0:=by
   cases e:n - l.length with
   | zero=>rfl
   | succ k=>rw [e] at h; simp at h
  rw [this] at h
  simp at h
  exact .inr ⟨by omega,h⟩
theorem Grow.new {c:Cell} {o:HO} (w:WOk K H θ μ) (hp:H p=none):Grow H θ μ (upd H p o) (θ ++ [p]) (μ ++ [c]) where
 pre:=fun n a h=>get_snoc_lt h
 keep:=fun a u h k=>by
  refine ⟨ext_upd hp a u h,?_⟩
  rintro ⟨n,c',e1,e2,e3⟩
  rcases get_snoc e1 with e1 | ⟨e1,rfl⟩
  ·rcases get_snoc e2 with e2 | ⟨e2,_⟩
   ·exact k ⟨n,c',e1,e2,e3⟩
   ·have:=(List.getElem?_eq_some_iff.mp e1).1
    have:=w.len
    omega
  ·rw [hp] at h; cases h
theorem WOk.new {c:Cell} {o:HO} (w:WOk K H θ μ) (hp:H p=none) (hc:CellOk K (upd H p o) (θ ++ [p]) (μ ++ [c]) p c):WOk K (upd H p o) (θ ++ [p]) (μ ++ [c]) where
 len:=by simp [w.len]
 inj:=fun m n a h k=>by
  rcases get_snoc h with h1 | ⟨h1,rfl⟩
  ·rcases get_snoc k with k1 | ⟨k1,rfl⟩
   ·exact w.inj m n a h1 k1
   ·exact absurd h1 (w.notIn hp m)
  ·rcases get_snoc k with k1 | ⟨k1,_⟩
   ·exact absurd k1 (w.notIn hp n)
   ·rw [h1,k1]
 bnd:=fun n a h=>by
  rcases get_snoc h with h | ⟨h,rfl⟩
  ·intro k
   cases q:H a with
   | none=>exact w.bnd n a h q
   | some u=>rw [ext_upd hp a u q] at k; cases k
  ·rw [upd_same]; simp
 cell:=fun n c' a h k=>by
  rcases get_snoc k with k | ⟨k,rfl⟩
  ·rcases get_snoc h with h | ⟨h,rfl⟩
   ·exact (w.cell n c' a h k).mono (Grow.new w hp) (ext_upd hp a)
   ·have:=(List.getElem?_eq_some_iff.mp k).1
    have:=w.len
    omega
  ·rcases get_snoc h with h | ⟨h,rfl⟩
   ·have:=(List.getElem?_eq_some_iff.mp h).1
    have:=w.len
    omega
   ·exact hc
theorem live_set {c c':Cell} (hn:μ[n]? = some c) (h1:c≠.gone) (h2:c'≠.gone):Live θ (μ.set n c') a↔Live θ μ a:=by
 constructor
 ·rintro ⟨m,e,k1,k2,k3⟩
  by_cases q:m=n
  ·subst q; exact ⟨m,c,k1,hn,h1⟩
  ·rw [List.getElem?_set_ne (Ne.symm q)] at k2; exact ⟨m,e,k1,k2,k3⟩
 ·rintro ⟨m,e,k1,k2,k3⟩
  by_cases q:m=n
  ·subst q
   refine ⟨m,c',k1,?_,h2⟩
   rw [List.getElem?_set_self (List.getElem?_eq_some_iff.mp hn).1]
  ·exact ⟨m,e,k1,by rw [List.getElem?_set_ne (Ne.symm q)]; exact k2,k3⟩
theorem Grow.write {c c':Cell} {o:HO} (hn:μ[n]? = some c) (ha:θ[n]? = some a) (h1:c≠.gone) (h2:c'≠.gone):Grow H θ μ (upd H a o) θ (μ.set n c') where
 pre:=fun _ _ h=>h
 keep:=fun b u h k=>by
  have:b≠a:=by rintro rfl; exact k ⟨n,c,ha,hn,h1⟩
  exact ⟨by rw [upd_ne this]; exact h,fun z=>k ((live_set hn h1 h2).mp z)⟩
theorem WOk.write {c c':Cell} {o:HO} (w:WOk K H θ μ) (hn:μ[n]? = some c) (ha:θ[n]? = some a) (h1:c≠.gone) (h2:c'≠.gone) (hc:CellOk K (upd H a o) θ (μ.set n c') a c'):WOk K (upd H a o) θ (μ.set n c') where
 len:=by simp [w.len]
 inj:=w.inj
 bnd:=fun m b h k=>by
  unfold upd at k
  split at k
  ·cases k
  ·exact w.bnd m b h k
 cell:=fun m c1 b h k=>by
  by_cases q:m=n
  ·subst q
   rw [List.getElem?_set_self (List.getElem?_eq_some_iff.mp hn).1] at h
   cases h
   rw [ha] at k; cases k
   exact hc
  ·rw [List.getElem?_set_ne (Ne.symm q)] at h
   have hb:b≠a:=fun z=>q (w.inj m n b k (by rw [z]; exact ha))
   exact (w.cell m c1 b h k).mono (Grow.write hn ha h1 h2) fun u e=>by rw [upd_ne hb]; exact e
theorem Grow.frz:Grow H θ μ H θ (μ.set n .gone) where
 pre:=fun _ _ h=>h
 keep:=fun b u h k=>⟨h,fun ⟨m,c,k1,k2,k3⟩=>by
  by_cases q:m=n
  ·subst q
   by_cases hl:m < μ.length
   ·rw [List.getElem?_set_self hl] at k2; cases k2; exact k3 rfl
   ·rw [List.set_eq_of_length_le (by omega)] at k2; exact k ⟨m,c,k1,k2,k3⟩
  ·rw [List.getElem?_set_ne (Ne.symm q)] at k2; exact k ⟨m,c,k1,k2,k3⟩⟩
theorem WOk.frz (w:WOk K H θ μ):WOk K H θ (μ.set n .gone) where
 len:=by simp [w.len]
 inj:=w.inj
 bnd:=w.bnd
 cell:=fun m c1 b h k=>by
  by_cases q:m=n
  ·subst q
   by_cases hl:m < μ.length
   ·rw [List.getElem?_set_self hl] at h; cases h; trivial
   ·rw [List.set_eq_of_length_le (by omega)] at h ⊢; exact w.cell m c1 b h k
  ·rw [List.getElem?_set_ne (Ne.symm q)] at h
   exact (w.cell m c1 b h k).mono Grow.frz fun _ e=>e
theorem gone_notLive (w:WOk K H θ μ) (ha:θ[n]? = some a):¬ Live θ (μ.set n .gone) a:=by
 rintro ⟨m,c,k1,k2,k3⟩
 have:=w.inj m n a k1 ha
 subst this
 by_cases hl:m < μ.length
 ·rw [List.getElem?_set_self hl] at k2; cases k2; exact k3 rfl
 ·rw [List.getElem?_eq_none (by simp; omega)] at k2; cases k2
theorem WOk.list (w:WOk K H θ μ) (hn:μ[n]? = some (.lst ds)) (ha:θ[n]? = some a):∃ xs,H a=some (.lst xs)∧Rps K H θ μ ds xs:=w.cell n _ a hn ha
end
structure Sim (K:PySem.W.Frag) (σ:L2.St) (H:Hp) (ρ:Rho) (θ:List Addr) (μ:Mem):Prop where
 wok:WOk K H θ μ
 len:ρ.length=σ.length
 val:∀ (i:Nat) (d:D),ρ[i]? = some (some d)→∃ v,σ[i]? = some (some v)∧Rp K H θ μ d v
noncomputable def Fin (K:PySem.W.Frag) (H:Hp) (θ:List Addr) (μ:Mem) (Qd:QD) (Q:VK):Prop :=
 ∀ (d:D) (v:V) (H':Hp) (θ':List Addr) (μ':Mem),WOk K H' θ' μ'→Grow H θ μ H' θ' μ'→Rp K H' θ' μ' d v→Qd d μ'→Q v H'
noncomputable abbrev WE:=Rho→Mem→QD→Prop
noncomputable def LE (K:PySem.W.Frag) (w:WE):TE:=fun σ H Q=>∃ ρ θ μ Qd,Sim K σ H ρ θ μ∧w ρ μ Qd∧Fin K H θ μ Qd Q
noncomputable abbrev WT:=Rho→Mem→(Bool→Mem→Prop)→Prop
noncomputable def LT (K:PySem.W.Frag) (w:WT):TT:=fun σ H Q=>∃ ρ θ μ Qd,Sim K σ H ρ θ μ∧w ρ μ Qd ∧
 ∀ (b:Bool) (H':Hp) (θ':List Addr) (μ':Mem),WOk K H' θ' μ'→Grow H θ μ H' θ' μ'→Qd b μ'→Q b H'
noncomputable abbrev WA:=Rho→Mem→(List D→Mem→Prop)→Prop
noncomputable def LA (K:PySem.W.Frag) (w:WA):TA:=fun σ H Q=>∃ ρ θ μ Qd,Sim K σ H ρ θ μ∧w ρ μ Qd ∧
 ∀ (ds:List D) (vs:List V) (H':Hp) (θ':List Addr) (μ':Mem),WOk K H' θ' μ'→Grow H θ μ H' θ' μ'→Rps K H' θ' μ' ds vs→Qd ds μ'→Q vs H'
noncomputable abbrev WS:=DEnds→Rho→Mem→Prop
noncomputable def XLand (K:PySem.W.Frag) (E:XK) (H:Hp) (θ:List Addr) (μ:Mem) (c:String) (ks:List String) (ds:List D):Prop:=∃ C,PySem.W.nsIn K mainGlobals (Str.ofString c)=some (some (.ref C))∧∀ dx,ErrD K H θ μ ks ds dx→E (.ref C) dx H
structure FinS (K:PySem.W.Frag) (EX:L2.St→XK) (H:Hp) (θ:List Addr) (μ:Mem) (Z:DEnds) (D:Ends):Prop where
 nx:∀ σ' H' ρ' θ' μ',Sim K σ' H' ρ' θ' μ'→Grow H θ μ H' θ' μ'→Z.nx ρ' μ'→D.nx σ' H'
 rt:Fin K H θ μ Z.rt D.rt
 bk:∀ σ' H' ρ' θ' μ',Sim K σ' H' ρ' θ' μ'→Grow H θ μ H' θ' μ'→Z.bk ρ' μ'→D.bk σ' H'
 ct:∀ σ' H' ρ' θ' μ',Sim K σ' H' ρ' θ' μ'→Grow H θ μ H' θ' μ'→Z.ct ρ' μ'→D.ct σ' H'
 xc:∀ σ' H' ρ' θ' μ' c ks ds,Sim K σ' H' ρ' θ' μ'→Grow H θ μ H' θ' μ'→Z.xc ρ' c ks ds μ'→XLand K (EX σ') H' θ' μ' c ks ds
noncomputable def LS (K:PySem.W.Frag) (EX:L2.St→XK) (w:WS):TS:=fun D σ H=>∃ ρ θ μ Z,Sim K σ H ρ θ μ∧w Z ρ μ∧FinS K EX H θ μ Z D
section
variable {K:PySem.W.Frag} {H H' H'':Hp} {θ θ' θ'':List Addr} {μ μ' μ'':Mem} {σ:L2.St} {ρ:Rho} {i:Nat} {d:D} {v:V} {Qd:QD} {Q:VK}
theorem Sim.grow (s:Sim K σ H ρ θ μ) (w:WOk K H' θ' μ') (g:Grow H θ μ H' θ' μ'):Sim K σ H' ρ θ' μ' :=
 ⟨w,s.len,fun i d h=>let ⟨v,e,r⟩:=s.val i d h; ⟨v,e,g.rep r⟩⟩
theorem Sim.set (s:Sim K σ H ρ θ μ) (r:Rp K H θ μ d v) (i:Nat):Sim K (σ.set i (some v)) H (ρ.set i (some d)) θ μ :=
 ⟨s.wok,by simp [s.len],fun j e h=>by
  by_cases q:j=i
  ·subst q
   by_cases hl:j < ρ.length
   ·rw [List.getElem?_set_self hl] at h
    cases h
    exact ⟨v,by rw [List.getElem?_set_self (by rw [← s.len]; exact hl)],r⟩
   ·rw [List.getElem?_eq_none (by simp; omega)] at h; cases h
  ·rw [List.getElem?_set_ne (Ne.symm q)] at h ⊢
   exact s.val j e h⟩
theorem Fin.mono (f:Fin K H θ μ Qd Q) (g:Grow H θ μ H' θ' μ'):Fin K H' θ' μ' Qd Q:=fun d v H'' θ'' μ'' w g' r q=>f d v H'' θ'' μ'' w (g.trans g') r q
theorem Fin.at (f:Fin K H θ μ Qd Q) (w:WOk K H θ μ) (r:Rp K H θ μ d v) (q:Qd d μ):Q v H:=f d v H θ μ w Grow.refl r q
theorem FinS.mono {EX:L2.St→XK} {Z:DEnds} {D:Ends} (f:FinS K EX H θ μ Z D) (g:Grow H θ μ H' θ' μ'):FinS K EX H' θ' μ' Z D :=
 ⟨fun σ' H' ρ' θ' μ' s g' z=>f.nx σ' H' ρ' θ' μ' s (g.trans g') z,f.rt.mono g,fun σ' H' ρ' θ' μ' s g' z=>f.bk σ' H' ρ' θ' μ' s (g.trans g') z,fun σ' H' ρ' θ' μ' s g' z=>f.ct σ' H' ρ' θ' μ' s (g.trans g') z,fun σ' H' ρ' θ' μ' c ks ds s g' z=>f.xc σ' H' ρ' θ' μ' c ks ds s (g.trans g') z⟩
end
end DW
end
section
set_option autoImplicit false
namespace DW
open PySem PySem.Spec PyProof.Rows L2
section
variable {X:Cx}
theorem PE.wk {e:Expr} {t t':TE} (h:PE X e t) (m:∀ σ H Q,t' σ H Q→t σ H Q):PE X e t':=fun pins s σ H Q I hw=>h pins s σ H Q I (m σ H Q hw)
theorem PT.wk {e:Expr} {t t':TT} (h:PT X e t) (m:∀ σ H Q,t' σ H Q→t σ H Q):PT X e t':=fun pins s σ H Q I hw=>h pins s σ H Q I (m σ H Q hw)
theorem PW.wk {e:Expr} {t t':TT} (h:PW X e t) (m:∀ σ H Q,t' σ H Q→t σ H Q):PW X e t':=fun wh pins s σ H Q I hw=>h wh pins s σ H Q I (m σ H Q hw)
theorem PA.wk {es:List Expr} {t t':TA} (h:PA X es t) (m:∀ σ H Q,t' σ H Q→t σ H Q):PA X es t':=fun pos pins s σ H Q I hw=>h pos pins s σ H Q I (m σ H Q hw)
theorem PS.wk {st:Stmt} {t t':TS} (h:PS X st t) (m:∀ D σ H,t' D σ H→t D σ H):PS X st t':=fun pins s σ H D I hw=>h pins s σ H D I (m D σ H hw)
theorem PSs.wk {st:List Stmt} {t t':TS} (h:PSs X st t) (m:∀ D σ H,t' D σ H→t D σ H):PSs X st t':=fun pins s σ H D I hw=>h pins s σ H D I (m D σ H hw)
end
theorem lim_eq:lim=sizeLine:=by rw [sizeLine_eq]; rfl
noncomputable def low2 (K:PySem.W.Frag) (w:D→D→Mem→QD→Prop):R2:=fun x y H Q=>∃ d e θ μ Qd,WOk K H θ μ∧Rp K H θ μ d x∧Rp K H θ μ e y∧w d e μ Qd∧Fin K H θ μ Qd Q
noncomputable def lowA (K:PySem.W.Frag) (w:List D→Mem→QD→Prop):List V→Hp→VK→Prop:=fun vs H Q=>∃ ds θ μ Qd,WOk K H θ μ∧Rps K H θ μ ds vs∧w ds μ Qd∧Fin K H θ μ Qd Q
noncomputable def lowM (K:PySem.W.Frag) (w:D→List D→Mem→QD→Prop):V→List V→Hp→VK→Prop:=fun x vs H Q=>∃ d ds θ μ Qd,WOk K H θ μ∧Rp K H θ μ d x∧Rps K H θ μ ds vs∧w d ds μ Qd∧Fin K H θ μ Qd Q
section
variable {K:PySem.W.Frag} {H H':Hp} {θ θ':List Addr} {μ μ':Mem} {σ:L2.St} {ρ:Rho} {Qd:QD} {Q:VK} {ds:List D} {xs:List V} {p a:Addr}
theorem rp_non:Rp K H θ μ .non .non:=by unfold Rep; rfl
theorem rp_bl {b:Bool}:Rp K H θ μ (.bl b) (.bl b):=by unfold Rep; rfl
theorem rp_int {i:Int}:Rp K H θ μ (.int i) (.int i):=by unfold Rep; rfl
theorem rp_str {x:List Nat} (h:x.length≤sizeLine):Rp K H θ μ (.str x) (.str ⟨x.toArray⟩):=by unfold Rep; exact ⟨rfl,h⟩
theorem inv_non {v:V} (h:Rp K H θ μ .non v):v = .non:=by unfold Rep at h; exact h
theorem inv_bl {b:Bool} {v:V} (h:Rp K H θ μ (.bl b) v):v = .bl b:=by unfold Rep at h; exact h
theorem inv_int {i:Int} {v:V} (h:Rp K H θ μ (.int i) v):v = .int i:=by unfold Rep at h; exact h
theorem inv_str {x:List Nat} {v:V} (h:Rp K H θ μ (.str x) v):v = .str ⟨x.toArray⟩∧x.length≤sizeLine:=by unfold Rep at h; exact h
theorem inv_tup {v:V} (h:Rp K H θ μ (.tup ds) v):∃ a xs,v = .ref a∧H a=some (.tup xs)∧¬ Live θ μ a∧Rps K H θ μ ds xs:=by unfold Rep at h; exact h
theorem inv_lst {v:V} (h:Rp K H θ μ (.lst ds) v):∃ a xs,v = .ref a∧H a=some (.lst xs)∧¬ Live θ μ a∧Rps K H θ μ ds xs:=by unfold Rep at h; exact h
theorem inv_ro {v:V} (h:Rp K H θ μ (.ro ds) v):∃ a xs,v = .ref a∧((∃ o,H a=some (.frz o (.lst xs))∧¬ Live θ μ a)∨KL K a xs)∧Rps K H θ μ ds xs:=by unfold Rep at h; exact h
theorem inv_loc {n:Nat} {v:V} (h:Rp K H θ μ (.loc n) v):∃ a,v = .ref a∧θ[n]? = some a:=by unfold Rep at h; exact h
theorem inv_dic {ks:List DKey} {v:V} (h:Rp K H θ μ (.dic ks ds) v):∃ a kvs,v = .ref a∧H a=some (.dK kvs)∧¬ Live θ μ a∧kvs.map (·.1)=ks.map keyOf∧Rps K H θ μ ds (kvs.map (·.2)):=by unfold Rep at h; exact h
theorem inv_fdc {ks:List DKey} {v:V} (h:Rp K H θ μ (.fdc ks ds) v):∃ a o kvs,v = .ref a∧H a=some (.frz o (.dK kvs))∧¬ Live θ μ a∧kvs.map (·.1)=ks.map keyOf∧Rps K H θ μ ds (kvs.map (·.2)):=by unfold Rep at h; exact h
theorem SqL_ro (h:(∃ o,H a=some (.frz o (.lst xs))∧¬ Live θ μ a)∨KL K a xs):SqL K H a xs:=by
 rcases h with ⟨o,h,_⟩ | h
 ·exact .inl (.inr ⟨o,h⟩)
 ·exact .inr h
theorem seqOf_sq {d:D} {v:V} (wk:WOk K H θ μ) (r:Rp K H θ μ d v) (h:seqOf μ d=some ds):∃ a xs,v = .ref a∧(SqL K H a xs∨SqT K H a xs)∧Rps K H θ μ ds xs:=by
 cases d with
 | lst es=>simp only [seqOf,Option.some.injEq] at h; subst h; obtain ⟨a,xs,e,h1,_,h3⟩:=inv_lst r; exact ⟨a,xs,e,.inl (.of h1),h3⟩
 | tup es=>simp only [seqOf,Option.some.injEq] at h; subst h; obtain ⟨a,xs,e,h1,_,h3⟩:=inv_tup r; exact ⟨a,xs,e,.inr (.of h1),h3⟩
 | ro es=>simp only [seqOf,Option.some.injEq] at h; subst h; obtain ⟨a,xs,e,h1,h3⟩:=inv_ro r; exact ⟨a,xs,e,.inl (SqL_ro h1),h3⟩
 | loc n =>
  obtain ⟨a,e,h1⟩:=inv_loc r
  simp only [seqOf] at h
  split at h
  ·rename_i es hn
   simp only [Option.some.injEq] at h; subst h
   obtain ⟨xs,h2,h3⟩:=wk.list hn h1
   exact ⟨a,xs,e,.inl (.of h2),h3⟩
  ·cases h
 | _=>simp [seqOf] at h
theorem new_tup (wk:WOk K H θ μ) (f:Fin K H θ μ Qd Q) (r:Rps K H θ μ ds xs) (h:Qd (.tup ds) μ) (hp:H p=none):Q (.ref p) (upd H p (.tup xs)):=by
 refine f (.tup ds) (.ref p) _ θ μ (wk.ext (ext_upd hp)) (Grow.ext (ext_upd hp)) ?_ h
 unfold Rep
 exact ⟨p,xs,rfl,upd_same,wk.notLive hp,(Grow.ext (ext_upd hp)).reps r⟩
theorem new_lst (wk:WOk K H θ μ) (f:Fin K H θ μ Qd Q) (r:Rps K H θ μ ds xs) (h:Qd (.lst ds) μ) (hp:H p=none):Q (.ref p) (upd H p (.lst xs)):=by
 refine f (.lst ds) (.ref p) _ θ μ (wk.ext (ext_upd hp)) (Grow.ext (ext_upd hp)) ?_ h
 unfold Rep
 exact ⟨p,xs,rfl,upd_same,wk.notLive hp,(Grow.ext (ext_upd hp)).reps r⟩
theorem new_cell (wk:WOk K H θ μ) (f:Fin K H θ μ Qd Q) (r:Rps K H θ μ ds xs) (h:Qd (.loc μ.length) (μ ++ [.lst ds])) (hp:H p=none):Q (.ref p) (upd H p (.lst xs)):=by
 have g:Grow H θ μ (upd H p (.lst xs)) (θ ++ [p]) (μ ++ [.lst ds]):=Grow.new wk hp
 refine f (.loc μ.length) (.ref p) _ (θ ++ [p]) (μ ++ [.lst ds]) (wk.new (c:=.lst ds) hp (show CellOk K _ _ _ p (.lst ds) from ⟨xs,upd_same,g.reps r⟩)) g ?_ h
 unfold Rep
 exact ⟨p,rfl,by rw [← wk.len]; simp⟩
theorem newL_ok {m:Bool} (wk:WOk K H θ μ) (f:Fin K H θ μ Qd Q) (r:Rps K H θ μ ds xs) (h:newL m ds μ Qd) (hp:H p=none):Q (.ref p) (upd H p (.lst xs)):=by
 cases m with
 | true=>exact new_cell wk f r h hp
 | false=>exact new_lst wk f r h hp
end
section
variable {K:PySem.W.Frag} {σ:L2.St} {H:Hp} {Q:VK} {wa wb wc:WE}
theorem le_bin {w:D→D→Mem→QD→Prop} (h:LE K (fun ρ μ Q=>wa ρ μ fun x μ1=>wb ρ μ1 fun y μ2=>w x y μ2 Q) σ H Q):tOp (low2 K w) (LE K wa) (LE K wb) σ H Q:=by
 obtain ⟨ρ,θ,μ,Qd,s,h,f⟩:=h
 refine ⟨ρ,θ,μ,_,s,h,fun x v H1 θ1 μ1 w1 g1 r1 h1=>⟨ρ,θ1,μ1,_,s.grow w1 g1,h1,fun y v2 H2 θ2 μ2 w2 g2 r2 h2=>?_⟩⟩
 exact ⟨x,y,θ2,μ2,Qd,w2,g2.rep r1,r2,h2,f.mono (g1.trans g2)⟩
theorem le_args {w:List D→Mem→QD→Prop} {ws:WA} (h:LE K (fun ρ μ Q=>ws ρ μ fun ds μ1=>w ds μ1 Q) σ H Q):LA K ws σ H (fun vs H1=>lowA K w vs H1 Q):=by
 obtain ⟨ρ,θ,μ,Qd,s,h,f⟩:=h
 exact ⟨ρ,θ,μ,_,s,h,fun ds vs H1 θ1 μ1 w1 g1 r1 h1=>⟨ds,θ1,μ1,Qd,w1,r1,h1,f.mono g1⟩⟩
theorem la_cons {ws:WA} {Q:List V→Hp→Prop} (h:LA K (fun ρ μ Q=>wa ρ μ fun d μ1=>ws ρ μ1 fun ds μ2=>Q (d :: ds) μ2) σ H Q):tCons (LE K wa) (LA K ws) σ H Q:=by
 obtain ⟨ρ,θ,μ,Qd,s,h,f⟩:=h
 refine ⟨ρ,θ,μ,_,s,h,fun x v H1 θ1 μ1 w1 g1 r1 h1=>⟨ρ,θ1,μ1,_,s.grow w1 g1,h1,fun ds vs H2 θ2 μ2 w2 g2 r2 h2=>?_⟩⟩
 exact f (x :: ds) (v :: vs) H2 θ2 μ2 w2 (g1.trans g2) (.cons (g2.rep r1) r2) h2
end
section
variable {X:Cx}
theorem pa_nilD:PA X [] (LA X.K (fun _ μ Q=>Q [] μ)):=PA.wk pa_nil fun σ H Q h=>by
 obtain ⟨ρ,θ,μ,Qd,s,h,f⟩:=h
 exact f [] [] H θ μ s.wok Grow.refl Reps.nil h
theorem pa_consD {e:Expr} {es:List Expr} {wa:WE} {ws:WA} (h1:PE X e (LE X.K wa)) (h2:PA X es (LA X.K ws)) (hs:starEach (e :: es) X.env=(false,eval e X.env) :: starEach es X.env) :
  PA X (e :: es) (LA X.K (fun ρ μ Q=>wa ρ μ fun d μ1=>ws ρ μ1 fun ds μ2=>Q (d :: ds) μ2)):=PA.wk (pa_cons h1 h2 hs) fun σ H Q h=>la_cons h
theorem pe_varD {i:Nat} {x:Str} {pos:Pos} (hN:X.N[i]? = some x) (hv:Vis X.env.scope x) (hd:(x == ("__debug__" : Str))=false) (hcd:(x == ("__classdict__" : Str))=false) :
  PE X (.Name x pos) (LE X.K (fun ρ μ Q=>match ρ[i]? with | some (some d)=>Q d μ | _=>False)):=PE.wk (pe_var hN hv hd hcd) fun σ H Q h=>by
 obtain ⟨ρ,θ,μ,Qd,s,h,f⟩:=h
 split at h
 ·rename_i d e
  obtain ⟨v,e1,r⟩:=s.val i d e
  exact ⟨v,e1,f.at s.wok r h⟩
 ·exact h.elim
theorem le_const {v:V} {d:D} (r:∀ H θ μ,Rp X.K H θ μ d v) {σ:L2.St} {H:Hp} {Q:VK} (h:LE X.K (fun _ μ Q=>Q d μ) σ H Q):tC v σ H Q:=by
 obtain ⟨ρ,θ,μ,Qd,s,h,f⟩:=h
 exact f.at s.wok (r H θ μ) h
theorem op_fdivB:OpR X (binaryOp .FloorDiv) (rI (fun _ j=>CDivD j) fun i j=>.int (i / j)):=opI fun i j _ _ _ _ _ hc q=>by
 have h1:(0:Int) < j:=hc.1
 have h2:j < 2 ^ 500:=hc.2
 refine floordiv_int (by omega) ?_ (.inl (PyProof.noPylong_of_log2 ?_))
 ·rw [Int.fdiv_eq_ediv_of_nonneg i (by omega)]; exact q
 ·have h3:j.natAbs < 2 ^ 500:=by omega
  have h4:j.natAbs≠0:=by omega
  have:=(Nat.log2_lt h4).mpr h3
  omega
theorem tup_add0 {prog:Program} {w:World} {A:Around} {E:Value→Shared→Prop} {s:Shared} {t b:Addr} {vs ws:List Value} {Q:Value→Shared→Prop} (ht:IsTup s.heap t vs.toArray) (hb:IsTup s.heap b ws.toArray) (hv:vs=[]) (h:Q (.ref b) s) :
  wpAny (model prog w) A (binaryOp .Add (.ref t) (.ref b)) Q E s:=by
 obtain ⟨⟨c1,d1,a1,s1⟩,g1,e1,n1,f1⟩:=id ht
 obtain ⟨⟨c2,d2,a2,s2⟩,g2,e2,n2,f2⟩:=id hb
 cases e1
 cases f1
 cases e2
 cases f2
 refine concat_meets ⟨_,g1,rfl⟩ ⟨_,g2,rfl⟩ noFill_tuple_add seq_tuple_add
  PySem.F.slot_tuple_add PySem.F.entry_tuple_add (PySem.F.args_tuple_add_2 _ _) (tuple_addW0 t b vs.toArray ws.toArray n1 n2 d1 d2 s1 s2 ?_) ⟨g1,g2,h⟩
 rw [hv]; rfl
theorem bin_ok (op:Operator):OpR X (binaryOp op) (low2 X.K (wBin op)):=by
 intro pins s σ H x y v u Q I rx ry h
 obtain ⟨d,e,θ,μ,Qd,wk,rd,re,hw,f⟩:=h
 unfold wBin at hw
 split at hw
 ·rename_i i j
  have ex:=inv_int rd
  have ey:=inv_int re
  split at hw
  ·exact op_add pins s σ H x y v u Q I rx ry ⟨i,j,ex,ey,f.at wk rp_int hw⟩
  ·exact op_sub pins s σ H x y v u Q I rx ry ⟨i,j,ex,ey,f.at wk rp_int hw⟩
  ·exact op_mul pins s σ H x y v u Q I rx ry ⟨i,j,ex,ey,hw.1,f.at wk rp_int hw.2⟩
  ·exact op_fdivB pins s σ H x y v u Q I rx ry ⟨i,j,ex,ey,hw.1,f.at wk rp_int hw.2⟩
  ·exact op_mod pins s σ H x y v u Q I rx ry ⟨i,j,ex,ey,hw.1,f.at wk rp_int hw.2⟩
  ·exact op_pow pins s σ H x y v u Q I rx ry ⟨i,j,ex,ey,hw.1,f.at wk rp_int hw.2⟩
  ·exact hw.elim
 ·rename_i a b
  obtain ⟨ex,hx⟩:=inv_str rd
  obtain ⟨ey,hy⟩:=inv_str re
  split at hw
  ·have hl:(a ++ b).length≤sizeLine:=by rw [List.length_append,← lim_eq]; exact hw.1
   have hq:=f.at wk (rp_str hl) hw.2
   refine op_add_str pins s σ H x y v u Q I rx ry ⟨_,_,ex,ey,?_,?_⟩
   ·show a.toArray.size + b.toArray.size≤_
    rw [← lim_eq]; simpa using hw.1
   ·have e:(⟨a.toArray⟩ ++ ⟨b.toArray⟩:Str)=⟨(a ++ b).toArray⟩:=by
     show Str.mk (a.toArray ++ b.toArray)=_
     simp
    rw [e]; exact hq
  ·exact hw.elim
 ·rename_i a n
  obtain ⟨rfl,hx⟩:=inv_str rd
  cases inv_int re
  split at hw
  ·obtain ⟨⟨n2,n3,a1,a2⟩,hq⟩:=hw
   obtain ⟨t,rfl⟩:=rx
   obtain ⟨u',rfl⟩:=ry
   have hal:(⟨a.toArray⟩:Str).length=a.length:=by simp [Str.length]
   have hflat:∀ (m:Nat) (acc:Array Nat),((List.replicate m a.toArray).foldl (· ++ ·) acc).toList=acc.toList ++ (List.replicate m a).flatten:=by
    intro m
    induction m with
    | zero=>intro acc; simp
    | succ m ih=>intro acc; rw [List.replicate_succ,List.foldl_cons,ih]; simp [List.replicate_succ]
   have hlen:(List.replicate n.toNat a).flatten.length=n.toNat * a.length:=by simp
   have hle:n.toNat * a.length≤1000 * 1000:=Nat.mul_le_mul (by omega) a2
   have hln:(List.replicate n.toNat a).flatten.length≤sizeLine:=by rw [hlen,sizeLine_eq]; omega
   have e:(⟨(List.replicate n.toNat (⟨a.toArray⟩:Str).cps).foldl (· ++ ·) #[]⟩:Str)=⟨(List.replicate n.toNat a).flatten.toArray⟩:=by
    have:=hflat n.toNat #[]
    congr 1
    apply Array.toList_inj.mp
    simpa using this
   refine PySem.P.mul_str (by rw [decide_eq_false (by omega),decide_eq_false (by omega)]; rfl) (fun _ _=>?_) (fun _ _=>?_) ?_
   ·rw [hal]
    have:(1000:Int)≤(2 ^ 63 - 1) / n:=(Int.le_ediv_iff_mul_le (by omega)).mpr (by omega)
    omega
   ·rw [hal]
    have h3:a.length * n.toNat≤1000000:=by rw [Nat.mul_comm]; omega
    unfold Builtin.Str.tooLong
    exact decide_eq_false (Nat.not_lt.mpr (Nat.le_trans h3 (by rw [sizeLine_eq]; decide)))
   ·rw [if_neg (by omega),if_neg (by rw [hal]; simp only [Bool.or_eq_true,beq_iff_eq]; omega),e]
    exact ⟨by simpa [Str.length] using hln,.str _,H,I.tok _,⟨_,rfl⟩,f.at wk (rp_str hln) hq⟩
  ·exact hw.elim
 ·rename_i a b
  obtain ⟨p,xs,ex,hx,_,r1⟩:=inv_lst rd
  obtain ⟨q,ys,ey,hy,_,r2⟩:=inv_lst re
  split at hw
  ·have l1:=r1.length
   have l2:=r2.length
   refine op_cat pins s σ H x y v u Q I rx ry ⟨p,q,xs,ys,ex,ey,hx,hy,by have h1:=hw.1; rw [l1,l2,lim_eq] at h1; exact h1,fun z hz=>?_⟩
   exact new_lst wk f (r1.append r2) hw.2 hz
  ·exact hw.elim
 ·rename_i a b
  obtain ⟨p,xs,ex,hx,nx,r1⟩:=inv_tup rd
  obtain ⟨q,ys,ey,hy,_,r2⟩:=inv_tup re
  split at hw
  ·obtain ⟨h2,h3⟩:=hw
   have l1:=r1.length
   have l2:=r2.length
   by_cases h1:a=[]
   ·subst h1
    rw [List.nil_append] at h3
    subst ex ey
    cases rx
    cases ry
    obtain ⟨its,q1,p1,_⟩:=I.tuple (SqT.of hx)
    obtain ⟨its2,q2,p2,_⟩:=I.tuple (SqT.of hy)
    have e1:its=[]:=List.length_eq_zero_iff.mp (by rw [← q1.length,← l1]; rfl)
    exact tup_add0 p1 p2 e1 ⟨.ref q,H,I,rfl,f.at wk re h3⟩
   refine op_catT pins s σ H x y v u Q I rx ry ⟨p,q,xs,ys,ex,ey,.of hx,.of hy,?_,by rw [l1,l2,lim_eq] at h2; exact h2,fun z=>?_,fun z w hw'=>new_tup wk f (r1.append r2) h3 hw'⟩
   ·intro z; rw [z] at l1; exact h1 (List.length_eq_zero_iff.mp l1)
   ·rw [z] at l2
    have e:b=[]:=List.length_eq_zero_iff.mp l2
    rw [e,List.append_nil] at h3
    rw [← ex]
    exact f.at wk rd h3
  ·exact hw.elim
 ·exact hw.elim
end
end DW
end
section
set_option autoImplicit false
namespace DW
open PySem
structure Ctx where
 N:List Str
 names:List (Str×NameKind)
 blts:List Str
 calm:Bool
 rs:Bool
noncomputable abbrev Ctx.in_ (c:Ctx) (N:List Str) (names:List (Str×NameKind)):Ctx:=⟨N,names,c.blts,c.calm,true⟩
noncomputable abbrev Ctx.of (N:List Str) (names:List (Str×NameKind)) (blts:List Str):Ctx:=⟨N,names,blts,true,true⟩
noncomputable def Ctx.vis (c:Ctx) (x:Str):Bool:=match c.names.lookup x with
 | some .local=>true
 | some .cell=>true
 | some .free=>true
 | _=>false
noncomputable def Ctx.loc (c:Ctx) (x:Str):Bool:=match c.names.lookup x with
 | some .local=>true
 | some .cell=>true
 | _=>false
noncomputable def Ctx.glb (c:Ctx) (x:Str):Bool:=match c.names.lookup x with
 | some .globalImplicit=>true
 | _=>false
noncomputable def Ctx.at_ (c:Ctx) (i:Nat) (x:Str):Bool:=match c.N[i]? with
 | some y=>decide (y=x)
 | none=>false
noncomputable def oddName (x:Str):Bool:=(x == ("__debug__" : Str)) || (x == ("__classdict__" : Str))
noncomputable def mC:Const→D→Bool
 | .none,.non=>true
 | .bool a,.bl b=>a == b
 | .int i,.int j=>i == j
 | .str s,.str x=>decide (s.cps.toList=x) && decide (x.length≤16777216)
 | _,_=>false
noncomputable def notStar:Expr→Bool
 | .Starred ..=>false
 | _=>true
noncomputable def notSet:Expr→Bool
 | .Set ..=>false
 | _=>true
noncomputable def notComp:Expr→Bool
 | .ListComp ..=>false
 | .SetComp ..=>false
 | .DictComp ..=>false
 | _=>true
noncomputable def plainIxB:Expr→Bool
 | .Name ..=>true
 | .Constant ..=>true
 | .BinOp ..=>true
 | .UnaryOp ..=>true
 | .Call ..=>true
 | .Subscript ..=>true
 | .Attribute ..=>true
 | .Tuple ..=>true
 | _=>false
noncomputable def baseB:Expr→Bool
 | .Name ..=>true
 | .Subscript ..=>true
 | .Attribute ..=>true
 | .Constant ..=>true
 | .Call (.Name ..) (_ :: _) _ _=>true
 | _=>false
theorem baseB_call {f:Expr} {as:List Expr} {ks:List Keyword} {p:Pos} (h:baseB (.Call f as ks p)=true):∃ x q a r,f = .Name x q∧as=a :: r:=by
 cases f with
 | Name x q=>cases as with
  | nil=>exact (Bool.false_ne_true h).elim
  | cons a r=>exact ⟨x,q,a,r,rfl,rfl⟩
 | _=>exact (Bool.false_ne_true h).elim
noncomputable def bname (x:String):Str:=if x = "mlist" then "list" else if x = "msorted" then "sorted" else if x = "isorted" then "sorted" else if x = "dsorted" then "sorted" else if x = "min3" then "min" else if x = "tsorted" then "sorted" else if x = "mtsorted" then "sorted" else Str.ofString x
noncomputable def bltName (c:Ctx) (x:Str):Bool:=c.glb x && c.blts.contains x
noncomputable def keyC:Option Expr→DKey→Bool
 | some (.Constant (.int i) _ _),.inl j=>i == j
 | some (.Constant (.str s) _ _),.inr x=>decide (s.cps.toList=x)
 | _,_=>false
noncomputable def capNames (c:Ctx):List Nat→Option (List Str)
 | []=>some []
 | i :: is=>match c.N[i]?,capNames c is with
  | some x,some r=>some (x :: r)
  | _,_=>none
noncomputable def compC (c:Ctx) (scope:Scope) (Nc:List Str) (cap:List Str):Bool :=
 (scope.kind == .function) && scope.names.all (fun y=>y.2 != .cell || (scope.names.lookup y.1 == some .cell)) && scope.names.all (fun y=>y.2 != .local || (scope.names.lookup y.1 == some .local)) &&
 decide (Nc.Nodup) && cap.all (fun y=>scope.names.lookup y == some .free) && scope.names.all (fun y=>y.2 != .free || (c.names.lookup y.1 == some .cell || c.names.lookup y.1 == some .free))
noncomputable def namesOf:List Expr→Option (List Str)
 | []=>some []
 | .Name x _ :: as=>(namesOf as).map (x :: ·)
 | _ :: _=>none
noncomputable def tgNames (tt:Bool) (a:Expr):Option (List Str):=match tt with
 | false=>match a with | .Name x _=>some [x] | _=>none
 | true=>match a with | .Tuple ts _ _=>namesOf ts | _=>none
noncomputable def mNames (c:Ctx):List Nat→List Expr→Bool
 | [],[]=>true
 | i :: is,a :: as=>(match a with | .Name x _=>c.at_ i x && c.loc x | _=>false) && mNames c is as
 | _,_=>false
noncomputable def mTg (c:Ctx) (is:List Nat) (tt:Bool) (a:Expr):Bool :=
 match tt with
 | false=>mNames c is [a]
 | true=>match a with | .Tuple ts _ _=>mNames c is ts | _=>false
noncomputable def zipTg (tt:Bool):It→Bool
 | .zip _ _=>tt
 | .enum _=>tt
 | _=>true
noncomputable def mNs (c:Ctx):List String→List Expr→Bool
 | [],[]=>true
 | t :: ts,a :: as=>(match a with | .Name z _=>z == Str.ofString t && c.glb z && !oddName z | _=>false) && mNs c ts as
 | _,_=>false
noncomputable def mCl (c:Ctx) (tt:Bool) (ts:List String) (a:Expr):Bool:=match tt with
 | false=>mNs c ts [a]
 | true=>match a with | .Tuple es _ _=>mNs c ts es && decide (es.length≤16777216) | _=>false
noncomputable def opt {α:Type} (o:Option α) (f:α→Bool):Bool:=match o with
 | some x=>f x
 | none=>false
theorem opt_inv {α:Type} {o:Option α} {f:α→Bool} (h:opt o f=true):∃ x,o=some x∧f x=true:=by
 cases o with
 | none=>exact (Bool.false_ne_true h).elim
 | some x=>exact ⟨x,rfl,h⟩
theorem none_some {α:Type} {x:α} {P:Prop} (h:none=some x):P:=(Option.some_ne_none x h.symm).elim
noncomputable def vName:Expr→Option Str
 | .Name x _=>some x
 | _=>none
theorem vName_inv {a:Expr} {t:Str} (h:vName a=some t):∃ p,a = .Name t p:=by
 cases a with
 | Name x p=>cases Option.some.inj (show some x=some t from h); exact ⟨p,rfl⟩
 | _=>exact none_some h
noncomputable def vConst:Expr→Option Const
 | .Constant k _ _=>some k
 | _=>none
theorem vConst_inv {a:Expr} {t:Const} (h:vConst a=some t):∃ j p,a = .Constant t j p:=by
 cases a with
 | Constant k j p=>cases Option.some.inj (show some k=some t from h); exact ⟨j,p,rfl⟩
 | _=>exact none_some h
noncomputable def vBin:Expr→Option (Expr×Operator×Expr)
 | .BinOp l o r _=>some (l,o,r)
 | _=>none
theorem vBin_inv {a:Expr} {t:(Expr×Operator×Expr)} (h:vBin a=some t):∃ p,a = .BinOp t.1 t.2.1 t.2.2 p:=by
 cases a with
 | BinOp l o r p=>cases Option.some.inj (show some (l,o,r)=some t from h); exact ⟨p,rfl⟩
 | _=>exact none_some h
noncomputable def vIf:Expr→Option (Expr×Expr×Expr)
 | .IfExp x y z _=>some (x,y,z)
 | _=>none
theorem vIf_inv {a:Expr} {t:(Expr×Expr×Expr)} (h:vIf a=some t):∃ p,a = .IfExp t.1 t.2.1 t.2.2 p:=by
 cases a with
 | IfExp x y z p=>cases Option.some.inj (show some (x,y,z)=some t from h); exact ⟨p,rfl⟩
 | _=>exact none_some h
noncomputable def vSub:Expr→Option (Expr×Expr)
 | .Subscript x y _=>some (x,y)
 | _=>none
theorem vSub_inv {a:Expr} {t:(Expr×Expr)} (h:vSub a=some t):∃ p,a = .Subscript t.1 t.2 p:=by
 cases a with
 | Subscript x y p=>cases Option.some.inj (show some (x,y)=some t from h); exact ⟨p,rfl⟩
 | _=>exact none_some h
noncomputable def vTup:Expr→Option (List Expr)
 | .Tuple x _ _=>some x
 | _=>none
theorem vTup_inv {a:Expr} {t:(List Expr)} (h:vTup a=some t):∃ k p,a = .Tuple t k p:=by
 cases a with
 | Tuple x k p=>cases Option.some.inj (show some x=some t from h); exact ⟨k,p,rfl⟩
 | _=>exact none_some h
noncomputable def vLst:Expr→Option (List Expr)
 | .List x _=>some x
 | _=>none
theorem vLst_inv {a:Expr} {t:(List Expr)} (h:vLst a=some t):∃ p,a = .List t p:=by
 cases a with
 | List x p=>cases Option.some.inj (show some x=some t from h); exact ⟨p,rfl⟩
 | _=>exact none_some h
noncomputable def vAttr:Expr→Option (Expr×Str)
 | .Attribute x y _=>some (x,y)
 | _=>none
theorem vAttr_inv {a:Expr} {t:(Expr×Str)} (h:vAttr a=some t):∃ p,a = .Attribute t.1 t.2 p:=by
 cases a with
 | Attribute x y p=>cases Option.some.inj (show some (x,y)=some t from h); exact ⟨p,rfl⟩
 | _=>exact none_some h
noncomputable def vNeg:Expr→Option Expr
 | .UnaryOp .USub l _=>some l
 | _=>none
theorem vNeg_inv {a:Expr} {t:Expr} (h:vNeg a=some t):∃ p,a = .UnaryOp .USub t p:=by
 cases a with
 | UnaryOp o l p =>
  cases o with
  | USub=>cases Option.some.inj (show some l=some t from h); exact ⟨p,rfl⟩
  | _=>exact none_some h
 | _=>exact none_some h
noncomputable def vNot:Expr→Option Expr
 | .UnaryOp .Not l _=>some l
 | _=>none
theorem vNot_inv {a:Expr} {t:Expr} (h:vNot a=some t):∃ p,a = .UnaryOp .Not t p:=by
 cases a with
 | UnaryOp o l p =>
  cases o with
  | Not=>cases Option.some.inj (show some l=some t from h); exact ⟨p,rfl⟩
  | _=>exact none_some h
 | _=>exact none_some h
noncomputable def vCmp:Expr→Option (Expr×CmpOp×Expr)
 | .Compare l [o] [r] _=>some (l,o,r)
 | _=>none
theorem vCmp_inv {a:Expr} {t:(Expr×CmpOp×Expr)} (h:vCmp a=some t):∃ p,a = .Compare t.1 [t.2.1] [t.2.2] p:=by
 cases a with
 | Compare l os rs p =>
  match os,rs,h with
  | [o],[r],h=>cases Option.some.inj (show some (l,o,r)=some t from h); exact ⟨p,rfl⟩
  | [],_,h=>exact none_some h
  | _ :: _ :: _,_,h=>exact none_some h
  | [_],[],h=>exact none_some h
  | [_],_ :: _ :: _,h=>exact none_some h
 | _=>exact none_some h
noncomputable def vCmp2:Expr→Option (Expr×CmpOp×CmpOp×Expr×Expr)
 | .Compare l [o,q] [m,r] _=>some (l,o,q,m,r)
 | _=>none
theorem vCmp2_inv {a:Expr} {t:(Expr×CmpOp×CmpOp×Expr×Expr)} (h:vCmp2 a=some t):∃ p,a = .Compare t.1 [t.2.1,t.2.2.1] [t.2.2.2.1,t.2.2.2.2] p:=by
 cases a with
 | Compare l os rs p =>
  match os,rs,h with
  | [o,q],[m,r],h=>cases Option.some.inj (show some (l,o,q,m,r)=some t from h); exact ⟨p,rfl⟩
  | [],_,h=>exact none_some h
  | [_],_,h=>exact none_some h
  | _ :: _ :: _ :: _,_,h=>exact none_some h
  | [_,_],[],h=>exact none_some h
  | [_,_],[_],h=>exact none_some h
  | [_,_],_ :: _ :: _ :: _,h=>exact none_some h
 | _=>exact none_some h
noncomputable def vAnd:Expr→Option (Expr×Expr)
 | .BoolOp .And (v :: w :: rest) p=>some (v,match rest with | []=>w | _ :: _=>.BoolOp .And (w :: rest) p)
 | _=>none
theorem vAnd_inv {a:Expr} {t:Expr×Expr} (h:vAnd a=some t):(∃ p,a = .BoolOp .And [t.1,t.2] p)∨∃ w z rest p,a = .BoolOp .And (t.1 :: w :: z :: rest) p∧t.2 = .BoolOp .And (w :: z :: rest) p:=by
 cases a with
 | BoolOp o vs p =>
  cases o with
  | And =>
   match vs,h with
   | [v,w],h=>cases Option.some.inj (show some (v,w)=some t from h); exact .inl ⟨p,rfl⟩
   | v :: w :: z :: rest,h=>cases Option.some.inj (show some (v,.BoolOp .And (w :: z :: rest) p)=some t from h); exact .inr ⟨w,z,rest,p,rfl,rfl⟩
   | [],h=>exact none_some h
   | [_],h=>exact none_some h
  | _=>exact none_some h
 | _=>exact none_some h
noncomputable def vOr:Expr→Option (Expr×Expr)
 | .BoolOp .Or (v :: w :: rest) p=>some (v,match rest with | []=>w | _ :: _=>.BoolOp .Or (w :: rest) p)
 | _=>none
theorem vOr_inv {a:Expr} {t:Expr×Expr} (h:vOr a=some t):(∃ p,a = .BoolOp .Or [t.1,t.2] p)∨∃ w z rest p,a = .BoolOp .Or (t.1 :: w :: z :: rest) p∧t.2 = .BoolOp .Or (w :: z :: rest) p:=by
 cases a with
 | BoolOp o vs p =>
  cases o with
  | Or =>
   match vs,h with
   | [v,w],h=>cases Option.some.inj (show some (v,w)=some t from h); exact .inl ⟨p,rfl⟩
   | v :: w :: z :: rest,h=>cases Option.some.inj (show some (v,.BoolOp .Or (w :: z :: rest) p)=some t from h); exact .inr ⟨w,z,rest,p,rfl,rfl⟩
   | [],h=>exact none_some h
   | [_],h=>exact none_some h
  | _=>exact none_some h
 | _=>exact none_some h
noncomputable def vCall:Expr→Option (Str×List Expr)
 | .Call (.Name y _) as [] _=>some (y,as)
 | _=>none
theorem vCall_inv {a:Expr} {t:(Str×List Expr)} (h:vCall a=some t):∃ p q,a = .Call (.Name t.1 p) t.2 [] q:=by
 cases a with
 | Call f as ks q =>
  cases f with
  | Name y p =>
   cases ks with
   | nil=>cases Option.some.inj (show some (y,as)=some t from h); exact ⟨p,q,rfl⟩
   | cons _ _=>exact none_some h
  | _=>exact none_some h
 | _=>exact none_some h
noncomputable def vMeth:Expr→Option (Expr×Str×List Expr×Bool)
 | .Call (.Attribute o m p) as [] q=>some (o,m,as,p.endLine == q.line)
 | _=>none
theorem vMeth_inv {a:Expr} {t:(Expr×Str×List Expr×Bool)} (h:vMeth a=some t):∃ p q,a = .Call (.Attribute t.1 t.2.1 p) t.2.2.1 [] q∧t.2.2.2=(p.endLine == q.line):=by
 cases a with
 | Call f as ks q =>
  cases f with
  | Attribute o m p =>
   cases ks with
   | nil=>cases Option.some.inj (show some (o,m,as,p.endLine == q.line)=some t from h); exact ⟨p,q,rfl,rfl⟩
   | cons _ _=>exact none_some h
  | _=>exact none_some h
 | _=>exact none_some h
noncomputable def vSlc:Expr→Option (Expr×Option Expr×Option Expr)
 | .Subscript x (.Slice lo hi none _) _=>some (x,lo,hi)
 | _=>none
theorem vSlc_inv {a:Expr} {t:(Expr×Option Expr×Option Expr)} (h:vSlc a=some t):∃ p q,a = .Subscript t.1 (.Slice t.2.1 t.2.2 none p) q:=by
 cases a with
 | Subscript x y q =>
  cases y with
  | Slice lo hi st p =>
   cases st with
   | none=>cases Option.some.inj (show some (x,lo,hi)=some t from h); exact ⟨p,q,rfl⟩
   | some _=>exact none_some h
  | _=>exact none_some h
 | _=>exact none_some h
noncomputable def vTwo:List Expr→Option (Expr×Expr)
 | [x,y]=>some (x,y)
 | _=>none
theorem vTwo_inv {a:List Expr} {t:Expr×Expr} (h:vTwo a=some t):a=[t.1,t.2]:=by
 match a,h with
 | [x,y],h=>cases Option.some.inj (show some (x,y)=some t from h); rfl
 | [],h=>exact none_some h
 | [_],h=>exact none_some h
 | _ :: _ :: _ :: _,h=>exact none_some h
noncomputable def vComp:Expr→Option (Expr×Expr×Expr×List Expr×Scope)
 | .ListComp e [g] s _=>if g.is_async=0 then some (e,g.target,g.iter,g.ifs,s) else none
 | _=>none
theorem vComp_inv {a:Expr} {t:Expr×Expr×Expr×List Expr×Scope} (h:vComp a=some t):∃ p,a = .ListComp t.1 [⟨t.2.1,t.2.2.1,t.2.2.2.1,0⟩] t.2.2.2.2 p:=by
 cases a with
 | ListComp e gs s p =>
  match gs,h with
  | [⟨tg,it,ifs,k⟩],h =>
   have h:(if k=0 then some (e,tg,it,ifs,s) else none)=some t:=h
   by_cases q:k=0
   ·rw [if_pos q] at h; cases Option.some.inj h; exact ⟨p,by rw [q]⟩
   ·rw [if_neg q] at h; exact none_some h
  | [],h=>exact none_some h
  | _ :: _ :: _,h=>exact none_some h
 | _=>exact none_some h
noncomputable def mDsp (ks:List DKey) (as:Es) (a:Expr):Bool:=match ks,as,a with
 | [k],.cons (.cst (.int i)) .nil,.Dict [k'] [.Constant (.int j) _ _] _=>keyC k' k && i == j
 | _,_,_=>false
noncomputable def rngIt:It→Bool
 | .rng as=>decide (esLen as≤2)
 | _=>false
mutual
noncomputable def mE (c:Ctx):E→Expr→Bool
 | .var i,a=>opt (vName a) fun x=>c.at_ i x && c.vis x && !oddName x
 | .cst d,a=>opt (vConst a) fun k=>mC k d
 | .gbl y d,a=>opt (vName a) fun x=>x == y && c.glb x && !oddName x
 | .bin op l r,a=>opt (vBin a) fun t=>op == t.2.1 && mE c l t.1 && mE c r t.2.2
 | .neg l,a=>opt (vNeg a) fun t=>mE c l t
 | .not l,a=>opt (vNot a) fun t=>mE c l t
 | .cmp op l r,a=>opt (vCmp a) fun t=>op == t.2.1 && mE c l t.1 && mE c r t.2.2 && notSet t.2.2
 | .chain p q l m r,a=>opt (vCmp2 a) fun t=>p == t.2.1 && q == t.2.2.1 && mE c l t.1 && mE c m t.2.2.2.1 && mE c r t.2.2.2.2 && notSet t.2.2.2.2 && notSet t.2.2.2.1
 | .and x y,a=>opt (vAnd a) fun t=>mE c x t.1 && mE c y t.2
 | .or x y,a=>opt (vOr a) fun t=>mE c x t.1 && mE c y t.2
 | .ife t x y,a=>opt (vIf a) fun q=>mE c t q.1 && mE c x q.2.1 && mE c y q.2.2
 | .call x _ as,a=>opt (vCall a) fun t=>x == t.1 && c.glb x && !oddName x && mEs c as t.2
 | .blt x as,a=>opt (vCall a) fun t=>c.calm && knownB.contains x && bname x == t.1 && bltName c t.1 && mEs c as t.2 && !t.2.isEmpty
 | .isin l t,a=>opt (vCall a) fun q=>opt (vTwo q.2) fun w=>opt (vName w.2) fun z=>(q.1 == Str.ofString "isinstance") && bltName c q.1 && ["int","bool","str","tuple","list","dict"].contains t && (z == Str.ofString t) && bltName c z && mE c l w.1 && notStar w.1
 | .meth m o as,a=>opt (vMeth a) fun t=>(if t.2.2.1.isEmpty then false else ["append"].contains m) && t.2.1 == Str.ofString m && baseB t.1 && t.2.2.2 && mE c o t.1 && mEs c as t.2.2.1 && decide (t.2.2.1.length < 30)
 | .sqm m o as,a=>opt (vMeth a) fun t=>["index","count","get","pop","join","split","partition","startswith"].contains m && t.2.1 == Str.ofString m && baseB t.1 && t.2.2.2 && mE c o t.1 && mEs c as t.2.2.1 && decide (t.2.2.1.length < 30) && !t.2.2.1.isEmpty
 | .efl f _ o,a=>opt (vAttr a) fun t=>t.2 == Str.ofString f && baseB t.1 && mE c o t.1
 | .idx x y,a=>opt (vSub a) fun t=>mE c x t.1 && mE c y t.2 && plainIxB t.2
 | .slc _ x lo hi,a=>opt (vSlc a) fun t=>mE c x t.1 && mO c lo t.2.1 && mO c hi t.2.2
 | .tup as,a=>opt (vTup a) fun es=>mEs c as es && decide (es.length≤16777216)
 | .lst _ as,a=>opt (vLst a) fun es=>mEs c as es && decide (es.length≤16777216)
 | .dsp ks as,a=>mDsp ks as a
 | .comp _ n tt cap elt it cond,a=>opt (vComp a) fun t=>(c.calm || (rngIt it && !tt)) && opt (tgNames tt t.2.1) fun xs=>opt (capNames c cap) fun cs=>n == xs.length && compC c t.2.2.2.2 (xs ++ cs) cs && zipTg tt it && mI c it t.2.2.1 && mTg (c.in_ (xs ++ cs) t.2.2.2.2.names) (List.range n) tt t.2.1 && mE (c.in_ (xs ++ cs) t.2.2.2.2.names) elt t.1 && mEs (c.in_ (xs ++ cs) t.2.2.2.2.names) cond t.2.2.2.1 && decide (t.2.2.2.1.length≤1)
 | .frz x,a=>mE c x a
 | .cat _ l r,a=>opt (vBin a) fun t=>t.2.1 == .Add && mE c l t.1 && mE c r t.2.2
 | .isx l tt ts _,a=>opt (vCall a) fun q=>opt (vTwo q.2) fun w=>(q.1 == Str.ofString "isinstance") && bltName c q.1 && mE c l w.1 && notStar w.1 && mCl c tt ts w.2
noncomputable def mEs (c:Ctx):Es→List Expr→Bool
 | .nil,as=>as.isEmpty
 | .cons e es,as=>match as with | []=>false | a :: as=>mE c e a && notStar a && mEs c es as
noncomputable def mO (c:Ctx):Es→Option Expr→Bool
 | .nil,a=>a.isNone
 | .cons e es,a=>match a,es with | some a,.nil=>mE c e a | _,_=>false
noncomputable def mI (c:Ctx):It→Expr→Bool
 | .seq e,a=>mE c e a && notSet a
 | .rng as,a=>opt (vCall a) fun t=>(t.1 == Str.ofString "range") && bltName c t.1 && mEs c as t.2 && (t.2.length == 1)
 | .zip l r,a=>opt (vCall a) fun t=>opt (vTwo t.2) fun w=>(t.1 == Str.ofString "zip") && bltName c t.1 && mE c l w.1 && mE c r w.2 && notStar w.1 && notStar w.2
 | .enum l,a=>opt (vCall a) fun t=>match t.2 with | [l']=>(t.1 == Str.ofString "enumerate") && bltName c t.1 && mE c l l' && notStar l' | _=>false
end
noncomputable def notTupleE:Expr→Bool
 | .Tuple ..=>false
 | .List ..=>false
 | _=>true
noncomputable def isLocal (c:Ctx) (x:Str):Bool:=c.names.lookup x == some .local
noncomputable def isCompE:E→Bool
 | .comp ..=>true
 | _=>false
noncomputable def mXC (c:Ctx):XC→Expr→Bool
 | .fn x sp as,a=>opt (vCall a) fun t=>x == t.1 && c.glb x && !oddName x && mEs c as t.2
noncomputable def uAsg:Stmt→Option (Expr×Expr)
 | .Assign [t] v _=>some (t,v)
 | _=>none
theorem uAsg_inv {a:Stmt} {t:Expr×Expr} (h:uAsg a=some t):∃ p,a = .Assign [t.1] t.2 p:=by
 cases a with
 | Assign ts v p =>
  match ts,h with
  | [x],h=>cases Option.some.inj (show some (x,v)=some t from h); exact ⟨p,rfl⟩
  | [],h=>exact none_some h
  | _ :: _ :: _,h=>exact none_some h
 | _=>exact none_some h
noncomputable def uExp:Stmt→Option Expr
 | .Expr v _=>some v
 | _=>none
theorem uExp_inv {a:Stmt} {t:Expr} (h:uExp a=some t):∃ p,a = .Expr t p:=by
 cases a with
 | Expr v p=>cases Option.some.inj (show some v=some t from h); exact ⟨p,rfl⟩
 | _=>exact none_some h
noncomputable def uRet:Stmt→Option (Option Expr)
 | .Return v _=>some v
 | _=>none
theorem uRet_inv {a:Stmt} {t:Option Expr} (h:uRet a=some t):∃ p,a = .Return t p:=by
 cases a with
 | Return v p=>cases Option.some.inj (show some v=some t from h); exact ⟨p,rfl⟩
 | _=>exact none_some h
noncomputable def uIf:Stmt→Option (Expr×List Stmt×List Stmt)
 | .If t x y _=>some (t,x,y)
 | _=>none
theorem uIf_inv {a:Stmt} {t:Expr×List Stmt×List Stmt} (h:uIf a=some t):∃ p,a = .If t.1 t.2.1 t.2.2 p:=by
 cases a with
 | If u x y p=>cases Option.some.inj (show some (u,x,y)=some t from h); exact ⟨p,rfl⟩
 | _=>exact none_some h
noncomputable def uFor:Stmt→Option (Expr×Expr×List Stmt)
 | .For t i b [] _=>some (t,i,b)
 | _=>none
theorem uFor_inv {a:Stmt} {t:Expr×Expr×List Stmt} (h:uFor a=some t):∃ p,a = .For t.1 t.2.1 t.2.2 [] p:=by
 cases a with
 | For u i b e p =>
  cases e with
  | nil=>cases Option.some.inj (show some (u,i,b)=some t from h); exact ⟨p,rfl⟩
  | cons _ _=>exact none_some h
 | _=>exact none_some h
noncomputable def uRais:Stmt→Option Expr
 | .Raise (some e) none _=>some e
 | _=>none
theorem uRais_inv {a:Stmt} {t:Expr} (h:uRais a=some t):∃ p,a = .Raise (some t) none p:=by
 cases a with
 | Raise e o p =>
  match e,o,h with
  | some e,none,h=>cases Option.some.inj (show some e=some t from h); exact ⟨p,rfl⟩
  | none,_,h=>exact none_some h
  | some _,some _,h=>exact none_some h
 | _=>exact none_some h
noncomputable def uHan:ExceptHandler→Option (Expr×Str×Stmt×List Stmt)
 | .ExceptHandler (some y) (some n) (s :: r) _=>some (y,n,s,r)
 | _=>none
theorem uHan_inv {a:ExceptHandler} {t:Expr×Str×Stmt×List Stmt} (h:uHan a=some t):∃ p,a = .ExceptHandler (some t.1) (some t.2.1) (t.2.2.1 :: t.2.2.2) p:=by
 cases a with
 | ExceptHandler y n b p =>
  match y,n,b,h with
  | some y,some n,s :: r,h=>cases Option.some.inj (show some (y,n,s,r)=some t from h); exact ⟨p,rfl⟩
  | none,_,_,h=>exact none_some h
  | some _,none,_,h=>exact none_some h
  | some _,some _,[],h=>exact none_some h
noncomputable def uTry:Stmt→Option (List Stmt×ExceptHandler)
 | .Try b [x] [] [] _=>some (b,x)
 | _=>none
theorem uTry_inv {a:Stmt} {t:List Stmt×ExceptHandler} (h:uTry a=some t):∃ p,a = .Try t.1 [t.2] [] [] p:=by
 cases a with
 | Try b xs o f p =>
  match xs,o,f,h with
  | [x],[],[],h=>cases Option.some.inj (show some (b,x)=some t from h); exact ⟨p,rfl⟩
  | [],_,_,h=>exact none_some h
  | _ :: _ :: _,_,_,h=>exact none_some h
  | [_],_ :: _,_,h=>exact none_some h
  | [_],[],_ :: _,h=>exact none_some h
 | _=>exact none_some h
mutual
noncomputable def mS (c:Ctx):S→Stmt→Bool
 | .set i e,a=>opt (uAsg a) fun t=>opt (vName t.1) fun x=>c.at_ i x && c.loc x && mE c e t.2 && (notComp t.2 || isCompE e)
 | .setT is e,a=>opt (uAsg a) fun t=>opt (vTup t.1) fun ts=>c.calm && mNames c is ts && mE c e t.2 && notComp t.2 && notTupleE t.2
 | .setIx o i e,a=>opt (uAsg a) fun t=>opt (vSub t.1) fun u=>mE c o u.1 && mE c i u.2 && plainIxB u.2 && mE c e t.2 && notComp t.2
 | .exp e,a=>opt (uExp a) fun v=>mE c e v && notComp v
 | .ret e,a=>opt (uRet a) fun o=>opt o fun v=>mE c e v
 | .ite t x y,a=>opt (uIf a) fun u=>mE c t u.1 && mSs c x u.2.1 && mSs c y u.2.2
 | .for_ is tt it b,a=>opt (uFor a) fun u=>c.calm && mTg c is tt u.1 && mI c it u.2.1 && mSs c b u.2.2 && notSet u.2.1 && zipTg tt it
 | .setX i k,a=>opt (uAsg a) fun t=>opt (vName t.1) fun x=>c.at_ i x && c.loc x && mXC c k t.2
 | .raisI cn ks as,a=>opt (uRais a) fun v=>opt (vCall v) fun t=>c.rs && c.calm && t.1 == Str.ofString cn && c.glb t.1 && !oddName t.1 && mEs c as t.2 && !t.2.isEmpty
 | .tryx P tab i b hs,a=>opt (uTry a) fun t=>opt (uHan t.2) fun u=>opt (vName u.1) fun y=>c.calm && c.at_ i u.2.1 && c.loc u.2.1 && y == Str.ofString P && c.glb y && !oddName y && mSs { c with rs:=false } b t.1 && mSs { c with rs:=false,calm:=false } hs (u.2.2.1 :: u.2.2.2)
 | .nev,_=>true
noncomputable def mSs (c:Ctx):Ss→List Stmt→Bool
 | .nil,as=>as.isEmpty
 | .cons s r,as=>match as with | []=>false | a :: as=>mS c s a && mSs c r as
end
inductive Rf where
 | fn (x:Str) | mth (c m:String) | mk (c:String) | fld (c f:String)
 | fnM (x:Str) | rsi (c:String) (ks:List String) | efl (f:String) (tab:List String)
 | fnX (x:Str) (sp:DSpX) | mthX (c m:String) (sp:DSpX) | mkX (c:String) (sp:DSpX) | rse (c:String) | hdl (P:String) (tab:List String) | isx (tt:Bool) (ts:List String) (tab:List (String×Bool))
noncomputable def Rf.still:Rf→Bool
 | .fld _ _=>true
 | .isx _ _ _=>true
 | .efl _ _=>true
 | _=>false
noncomputable def hRf (P:Rf→DSp→Prop):Rf→DSp→Prop
 | .fn x,sp=>P (.fnM x) sp
 | r,sp=>r.still=true∧P r sp
noncomputable def spN:DSp:=fun _ _ _=>False
mutual
noncomputable def okE (P:Rf→DSp→Prop) (G:Str→D→Prop):E→Prop
 | .gbl x d=>G x d
 | .bin _ a b=>okE P G a∧okE P G b
 | .neg a=>okE P G a
 | .not a=>okE P G a
 | .cmp _ a b=>okE P G a∧okE P G b
 | .chain _ _ a b c=>okE P G a∧okE P G b∧okE P G c
 | .and a b=>okE P G a∧okE P G b
 | .or a b=>okE P G a∧okE P G b
 | .ife a b c=>okE P G a∧okE P G b∧okE P G c
 | .call x sp as=>P (.fn x) sp∧okEs P G as
 | .blt _ as=>okEs P G as
 | .isin a _=>okE P G a
 | .meth _ o as=>okE P G o∧okEs P G as
 | .sqm _ o as=>okE P G o∧okEs P G as
 | .efl f tab o=>P (.efl f tab) spN∧okE P G o
 | .idx a b=>okE P G a∧okE P G b
 | .slc _ a lo hi=>okE P G a∧okEs P G lo∧okEs P G hi
 | .tup as=>okEs P G as
 | .lst _ as=>okEs P G as
 | .dsp _ as=>okEs P G as
 | .comp _ _ _ _ elt it cond=>okE P G elt∧okI P G it∧okEs P G cond
 | .frz a=>okE P G a
 | .cat _ a b=>okE P G a∧okE P G b
 | .isx a tt ts tab=>P (.isx tt ts tab) spN∧okE P G a
 | _=>True
noncomputable def okEs (P:Rf→DSp→Prop) (G:Str→D→Prop):Es→Prop
 | .nil=>True
 | .cons e es=>okE P G e∧okEs P G es
noncomputable def okI (P:Rf→DSp→Prop) (G:Str→D→Prop):It→Prop
 | .seq e=>okE P G e
 | .rng as=>okEs P G as
 | .zip a b=>okE P G a∧okE P G b
 | .enum a=>okE P G a
end
noncomputable def okXC (P:Rf→DSp→Prop) (G:Str→D→Prop):XC→Prop
 | .fn x sp as=>P (.fnX x sp) spN∧okEs P G as
mutual
noncomputable def okS (P:Rf→DSp→Prop) (G:Str→D→Prop):S→Prop
 | .set _ e=>okE P G e
 | .setT _ e=>okE P G e
 | .setIx o i e=>okE P G o∧okE P G i∧okE P G e
 | .exp e=>okE P G e
 | .ret e=>okE P G e
 | .ite c a b=>okE P G c∧okSs P G a∧okSs P G b
 | .for_ _ _ it b=>okI P G it∧okSs P G b
 | .setX _ k=>okXC P G k
 | .raisI c ks as=>P (.rsi c ks) spN∧okEs P G as
 | .tryx Pn tab _ b h=>P (.hdl Pn tab) spN∧okSs P G b∧okSs (hRf P) G h
 | _=>True
noncomputable def okSs (P:Rf→DSp→Prop) (G:Str→D→Prop):Ss→Prop
 | .nil=>True
 | .cons s r=>okS P G s∧okSs P G r
end
end DW
end
section
set_option autoImplicit false
namespace DW
open PySem
section
variable {P P':Rf→DSp→Prop} {G G':Str→D→Prop} (hp:∀ x sp,P x sp→P' x sp) (hg:∀ x d,G x d→G' x d)
include hp hg
mutual
theorem okE.mono:∀ e:E,okE P G e→okE P' G' e
 | .var _,h=>trivial
 | .cst _,h=>trivial
 | .gbl x d,h=>hg x d h
 | .bin _ a b,h=>⟨okE.mono a h.1,okE.mono b h.2⟩
 | .neg a,h=>okE.mono a h
 | .not a,h=>okE.mono a h
 | .cmp _ a b,h=>⟨okE.mono a h.1,okE.mono b h.2⟩
 | .chain _ _ a b c,h=>⟨okE.mono a h.1,okE.mono b h.2.1,okE.mono c h.2.2⟩
 | .and a b,h=>⟨okE.mono a h.1,okE.mono b h.2⟩
 | .or a b,h=>⟨okE.mono a h.1,okE.mono b h.2⟩
 | .ife a b c,h=>⟨okE.mono a h.1,okE.mono b h.2.1,okE.mono c h.2.2⟩
 | .call x sp as,h=>⟨hp (.fn x) sp h.1,okEs.mono as h.2⟩
 | .blt _ as,h=>okEs.mono as h
 | .isin a _,h=>okE.mono a h
 | .meth _ o as,h=>⟨okE.mono o h.1,okEs.mono as h.2⟩
 | .sqm _ o as,h=>⟨okE.mono o h.1,okEs.mono as h.2⟩
 | .efl f _ o,h=>⟨hp _ _ h.1,okE.mono o h.2⟩
 | .idx a b,h=>⟨okE.mono a h.1,okE.mono b h.2⟩
 | .slc _ a lo hi,h=>⟨okE.mono a h.1,okEs.mono lo h.2.1,okEs.mono hi h.2.2⟩
 | .tup as,h=>okEs.mono as h
 | .lst _ as,h=>okEs.mono as h
 | .dsp _ as,h=>okEs.mono as h
 | .comp _ _ _ _ elt it cond,h=>⟨okE.mono elt h.1,okI.mono it h.2.1,okEs.mono cond h.2.2⟩
 | .frz a,h=>okE.mono a h
 | .cat _ a b,h=>⟨okE.mono a h.1,okE.mono b h.2⟩
 | .isx a _ _ _,h=>⟨hp _ _ h.1,okE.mono a h.2⟩
theorem okEs.mono:∀ e:Es,okEs P G e→okEs P' G' e
 | .nil,_=>trivial
 | .cons e es,h=>⟨okE.mono e h.1,okEs.mono es h.2⟩
theorem okI.mono:∀ e:It,okI P G e→okI P' G' e
 | .seq e,h=>okE.mono e h
 | .rng as,h=>okEs.mono as h
 | .zip a b,h=>⟨okE.mono a h.1,okE.mono b h.2⟩
 | .enum a,h=>okE.mono a h
end
theorem okXC.mono:∀ k:XC,okXC P G k→okXC P' G' k
 | .fn x sp as,h=>⟨hp _ _ h.1,okEs.mono hp hg as h.2⟩
end
theorem hRf_mono {P P':Rf→DSp→Prop} (hp:∀ x sp,P x sp→P' x sp) {x:Rf} {sp:DSp} (h:hRf P x sp):hRf P' x sp:=by
 cases x <;> first | exact hp _ _ h | exact ⟨h.1,hp _ _ h.2⟩
mutual
theorem okS.mono:∀ (s:S) {P P':Rf→DSp→Prop} {G G':Str→D→Prop} (hp:∀ x sp,P x sp→P' x sp) (hg:∀ x d,G x d→G' x d),okS P G s→okS P' G' s
 | .set _ e,_,_,_,_,hp,hg,h=>okE.mono hp hg e h
 | .setT _ e,_,_,_,_,hp,hg,h=>okE.mono hp hg e h
 | .setIx o i e,_,_,_,_,hp,hg,h=>⟨okE.mono hp hg o h.1,okE.mono hp hg i h.2.1,okE.mono hp hg e h.2.2⟩
 | .exp e,_,_,_,_,hp,hg,h=>okE.mono hp hg e h
 | .ret e,_,_,_,_,hp,hg,h=>okE.mono hp hg e h
 | .ite c a b,_,_,_,_,hp,hg,h=>⟨okE.mono hp hg c h.1,okSs.mono a hp hg h.2.1,okSs.mono b hp hg h.2.2⟩
 | .for_ _ _ it b,_,_,_,_,hp,hg,h=>⟨okI.mono hp hg it h.1,okSs.mono b hp hg h.2⟩
 | .nev,_,_,_,_,_,_,_=>trivial
 | .setX _ k,_,_,_,_,hp,hg,h=>okXC.mono hp hg k h
 | .raisI c ks as,_,_,_,_,hp,hg,h=>⟨hp _ _ h.1,okEs.mono hp hg as h.2⟩
 | .tryx Pn tab _ b hs,_,_,_,_,hp,hg,h=>⟨hp _ _ h.1,okSs.mono b hp hg h.2.1,okSs.mono hs (fun x sp z=>hRf_mono hp z) hg h.2.2⟩
theorem okSs.mono:∀ (s:Ss) {P P':Rf→DSp→Prop} {G G':Str→D→Prop} (hp:∀ x sp,P x sp→P' x sp) (hg:∀ x d,G x d→G' x d),okSs P G s→okSs P' G' s
 | .nil,_,_,_,_,_,_,_=>trivial
 | .cons s r,_,_,_,_,hp,hg,h=>⟨okS.mono s hp hg h.1,okSs.mono r hp hg h.2⟩
end
end DW
end
section
set_option autoImplicit false
set_option maxHeartbeats 2000000
namespace DW
open PySem PySem.Spec PyProof.Rows L2
section
variable {X:Cx} {pos:Pos}
end
end DW
end
section
set_option autoImplicit false
namespace DW
open PySem PySem.Spec PyProof.Rows L2
mutual
noncomputable def pd:D→PyData
 | .non=>.none
 | .bl b=>.bool b
 | .int i=>.int i
 | .str x=>.str ⟨x.toArray⟩
 | .tup ds=>.tuple (pds ds)
 | .lst ds=>.list (pds ds)
 | _=>.none
noncomputable def pds:List D→List PyData
 | []=>[]
 | d :: ds=>pd d :: pds ds
end
mutual
theorem canLay_pd:∀ (n:Nat) (d:D),flat n d=true→(pd d).canLay0=true
 | _,.non,_=>by simp [pd,PyData.canLay0]
 | _,.bl _,_=>by simp [pd,PyData.canLay0]
 | _,.int _,_=>by simp [pd,PyData.canLay0]
 | _,.str x,h=>by
  simp only [pd,PyData.canLay0,PyData.strOk]
  simpa [flat] using h
 | n + 1,.tup ds,h=>by simp only [pd,PyData.canLay0]; exact canLay_pds n ds (by simpa [flat] using h)
 | n + 1,.lst ds,h=>by simp only [pd,PyData.canLay0]; exact canLay_pds n ds (by simpa [flat] using h)
 | 0,.tup _,h=>by simp [flat] at h
 | 0,.lst _,h=>by simp [flat] at h
 | _,.ro _,h=>by simp [flat] at h
 | _,.loc _,h=>by simp [flat] at h
 | _,.dic _ _,h=>by simp [flat] at h
 | _,.fdc _ _,h=>by simp [flat] at h
theorem canLay_pds:∀ (n:Nat) (ds:List D),flats n ds=true→PyData.canLayAll0 (pds ds)=true
 | _,[],_=>by simp [pds,PyData.canLayAll0]
 | n,d :: ds,h=>by
  have h':flat n d=true∧flats n ds=true:=by simpa [flats] using h
  simp only [pds,PyData.canLayAll0,canLay_pd n d h'.1,canLay_pds n ds h'.2,Bool.and_self]
end
mutual
theorem depth_pd:∀ (n:Nat) (d:D),flat n d=true→(pd d).depth≤n
 | _,.non,_=>by simp [pd,PyData.depth]
 | _,.bl _,_=>by simp [pd,PyData.depth]
 | _,.int _,_=>by simp [pd,PyData.depth]
 | _,.str x,h=>by simp [pd,PyData.depth]
 | n + 1,.tup ds,h=>by simp only [pd,PyData.depth]; have:=depth_pds n ds (by simpa [flat] using h); omega
 | n + 1,.lst ds,h=>by simp only [pd,PyData.depth]; have:=depth_pds n ds (by simpa [flat] using h); omega
 | 0,.tup _,h=>by simp [flat] at h
 | 0,.lst _,h=>by simp [flat] at h
 | _,.ro _,h=>by simp [flat] at h
 | _,.loc _,h=>by simp [flat] at h
 | _,.dic _ _,h=>by simp [flat] at h
 | _,.fdc _ _,h=>by simp [flat] at h
theorem depth_pds:∀ (n:Nat) (ds:List D),flats n ds=true→PyData.depthAll (pds ds)≤n
 | _,[],_=>by simp [pds,PyData.depthAll]
 | n,d :: ds,h=>by
  have h':flat n d=true∧flats n ds=true:=by simpa [flats] using h
  simp only [pds,PyData.depthAll]
  have h1:=depth_pd n d h'.1
  have h2:=depth_pds n ds h'.2
  omega
end
theorem str_beqD (x y:List Nat):((⟨x.toArray⟩:Str) == ⟨y.toArray⟩)=(x == y):=by
 by_cases h:x=y
 ·subst h; simp
 ·have h1:¬ (⟨x.toArray⟩:Str)=⟨y.toArray⟩:=fun e=>h (by injection e with e; simpa using congrArg Array.toList e)
  rw [beq_eq_false_iff_ne.mpr h1,beq_eq_false_iff_ne.mpr h]
mutual
theorem eqv_pd:∀ (n m:Nat) (d e:D),flat n d=true→flat m e=true→PyData.eqv (pd d) (pd e)=eqD d e
 | _,_,.non,e,_,he=>by cases e <;> simp_all [pd,PyData.eqv,eqD,flat]
 | _,_,.bl a,e,_,he=>by cases e <;> simp_all [pd,PyData.eqv,eqD,flat,b2i]
 | _,_,.int i,e,_,he=>by cases e <;> simp_all [pd,PyData.eqv,eqD,flat,b2i]
 | _,_,.str x,e,_,he=>by cases e <;> simp_all [pd,PyData.eqv,eqD,flat,str_beqD]
 | n + 1,m,.tup ds,e,hd,he=>by
  cases e with
  | tup es =>
   cases m with
   | zero=>simp [flat] at he
   | succ m =>
    simp only [pd,PyData.eqv,eqD]
    exact eqv_pds n m ds es (by simpa [flat] using hd) (by simpa [flat] using he)
  | _=>simp_all [pd,PyData.eqv,eqD,flat]
 | n + 1,m,.lst ds,e,hd,he=>by
  cases e with
  | lst es =>
   cases m with
   | zero=>simp [flat] at he
   | succ m =>
    simp only [pd,PyData.eqv,eqD]
    exact eqv_pds n m ds es (by simpa [flat] using hd) (by simpa [flat] using he)
  | _=>simp_all [pd,PyData.eqv,eqD,flat]
 | 0,_,.tup _,_,h,_=>by simp [flat] at h
 | 0,_,.lst _,_,h,_=>by simp [flat] at h
 | _,_,.ro _,_,h,_=>by simp [flat] at h
 | _,_,.loc _,_,h,_=>by simp [flat] at h
 | _,_,.dic _ _,_,h,_=>by simp [flat] at h
 | _,_,.fdc _ _,_,h,_=>by simp [flat] at h
theorem eqv_pds:∀ (n m:Nat) (ds es:List D),flats n ds=true→flats m es=true→PyData.eqvAll (pds ds) (pds es)=eqDs ds es
 | _,_,[],es,_,_=>by cases es <;> simp [pds,PyData.eqvAll,eqDs]
 | n,m,d :: ds,es,hd,he=>by
  cases es with
  | nil=>simp [pds,PyData.eqvAll,eqDs]
  | cons e es =>
   have hd':flat n d=true∧flats n ds=true:=by simpa [flats] using hd
   have he':flat m e=true∧flats m es=true:=by simpa [flats] using he
   simp only [pds,PyData.eqvAll,eqDs]
   rw [eqv_pd n m d e hd'.1 he'.1,eqv_pds n m ds es hd'.2 he'.2]
end
section
variable {X:Cx} {pins:List (Addr×Obj)} {σ:L2.St} {H:Hp} {s:Shared} {θ:List Addr} {μ:Mem}
mutual
theorem reads_of (I:Inv X pins σ H s):∀ (n:Nat) (d:D) (v:V) (u:Value),Rp X.K H θ μ d v→RelV v u→flat n d=true→∃ as,Reads s.heap u (pd d) as
 | _,.non,v,u,r,ru,_=>by cases inv_non r; cases ru; exact ⟨_,by unfold pd; exact .none⟩
 | _,.bl b,v,u,r,ru,_=>by cases inv_bl r; cases ru; exact ⟨_,by unfold pd; exact .bool b⟩
 | _,.int i,v,u,r,ru,_=>by cases inv_int r; obtain ⟨t,rfl⟩:=ru; exact ⟨_,by unfold pd; exact .int i t⟩
 | _,.str x,v,u,r,ru,_=>by cases (inv_str r).1; obtain ⟨t,rfl⟩:=ru; exact ⟨_,by unfold pd; exact .str _ t⟩
 | n + 1,.tup ds,v,u,r,ru,h=>by
  obtain ⟨a,xs,rfl,hH,_,rs⟩:=inv_tup r
  cases ru
  obtain ⟨its,rv,⟨o,ho,hc,k,hd⟩,_⟩:=I.tuple (SqT.of hH)
  obtain ⟨as,ra⟩:=readsAll_of I n ds xs its rs rv (by simpa [flat] using h)
  exact ⟨as,by unfold pd; exact .tuple ho hc hd (by simpa using ra)⟩
 | n + 1,.lst ds,v,u,r,ru,h=>by
  obtain ⟨a,xs,rfl,hH,_,rs⟩:=inv_lst r
  cases ru
  obtain ⟨its,rv,⟨o,k,ho,hc,_,hd⟩,_⟩:=I.list (SqL.of hH)
  obtain ⟨as,ra⟩:=readsAll_of I n ds xs its rs rv (by simpa [flat] using h)
  exact ⟨a :: as,by unfold pd; exact .list ho hc hd (by simpa using ra)⟩
 | 0,.tup _,_,_,_,_,h=>by simp [flat] at h
 | 0,.lst _,_,_,_,_,h=>by simp [flat] at h
 | _,.ro _,_,_,_,_,h=>by simp [flat] at h
 | _,.loc _,_,_,_,_,h=>by simp [flat] at h
 | _,.dic _ _,_,_,_,_,h=>by simp [flat] at h
 | _,.fdc _ _,_,_,_,_,h=>by simp [flat] at h
theorem readsAll_of (I:Inv X pins σ H s):∀ (n:Nat) (ds:List D) (vs:List V) (us:List Value),Rps X.K H θ μ ds vs→Vals vs us→flats n ds=true→∃ as,ReadsAll s.heap us (pds ds) as
 | _,[],vs,us,r,rv,_=>by cases r.nil_inv; cases rv; exact ⟨_,by unfold pds; exact .nil⟩
 | n,d :: ds,vs,us,r,rv,h=>by
  obtain ⟨v,vr,rfl,h1,h2⟩:=r.cons_inv
  have h':flat n d=true∧flats n ds=true:=by simpa [flats] using h
  cases rv with
  | cons ru rr =>
   obtain ⟨as,ra⟩:=reads_of I n d v _ h1 ru h'.1
   obtain ⟨bs,rb⟩:=readsAll_of I n ds vr _ h2 rr h'.2
   exact ⟨as ++ bs,by unfold pds; exact .cons ra rb⟩
end
end
theorem ltCs_eq:∀ (x y:List Nat),ltCs x y=decide (x < y)
 | [],[]=>by simp [ltCs]
 | [],_ :: _=>by simp [ltCs]
 | _ :: _,[]=>by simp [ltCs]
 | a :: x,b :: y=>by
  unfold ltCs
  by_cases h:a=b
  ·subst h
   rw [if_pos rfl,ltCs_eq x y]
   simp [List.cons_lt_cons_iff]
  ·rw [if_neg h]
   simp [List.cons_lt_cons_iff,h]
noncomputable def SV (u:Value) (d:D):Prop:=(∃ i t,u = .int i t∧d = .int i)∨∃ x t,u = .str ⟨x.toArray⟩ t∧d = .str x
noncomputable abbrev SVs:List Value→List D→Prop:=Paired SV
theorem sv_eq {A:Around} {s:Shared} {u v:Value} {d e:D} (h:SV u d) (k:SV v e):SeqAt.EqAt A s u v (eqD d e):=by
 rcases h with ⟨i,t,rfl,rfl⟩ | ⟨x,t,rfl,rfl⟩
 ·rcases k with ⟨j,t',rfl,rfl⟩ | ⟨y,t',rfl,rfl⟩
  ·simp only [eqD]; exact SeqAt.EqAt.int_int i t j t'
  ·simp only [eqD]; exact SeqAt.EqAt.int_str i t _ t'
 ·rcases k with ⟨j,t',rfl,rfl⟩ | ⟨y,t',rfl,rfl⟩
  ·simp only [eqD]; exact SeqAt.EqAt.str_int _ t j t'
  ·simp only [eqD]; rw [← str_beqD]; exact SeqAt.EqAt.str_str _ t _ t'
theorem sv_lt {A:Around} {s:Shared} {u v:Value} {d e:D} {b:Bool} (h:SV u d) (k:SV v e) (hb:ltD d e=some b) (prog:Program) (w:World) (E:Value→Shared→Prop) (Q:Value→Shared→Prop) (q:Q (.bool b) s) :
  wpAny (model prog w) A (richCompare .Lt u v) Q E s:=by
 rcases h with ⟨i,t,rfl,rfl⟩ | ⟨x,t,rfl,rfl⟩
 ·rcases k with ⟨j,t',rfl,rfl⟩ | ⟨y,t',rfl,rfl⟩
  ·simp only [ltD,Option.some.injEq] at hb
   subst hb
   exact (PyProof.Rows.lt_int q:wpAny (model prog w) A (compareOp .Lt (.int i t) (.int j t')) Q E s)
  ·simp [ltD] at hb
 ·rcases k with ⟨j,t',rfl,rfl⟩ | ⟨y,t',rfl,rfl⟩
  ·simp [ltD] at hb
  ·simp only [ltD,Option.some.injEq] at hb
   subst hb
   rw [ltCs_eq] at q
   exact (PySem.P.lt_str (by simpa using q):wpAny (model prog w) A (compareOp .Lt (.str ⟨x.toArray⟩ t) (.str ⟨y.toArray⟩ t')) Q E s)
section
open PySem.SeqAt
open PySem.AutoSeq1 (wpAny_loadPart')
open PySem.MeetsSeq PySem.MeetsSeq2 PySem.MeetsSeq3
theorem ltDs_cons (d e:D) (ds es:List D):ltDs (d :: ds) (e :: es)=if eqD d e then ltDs ds es else ltD d e:=by rw [ltDs]
theorem tuple_lt_sv (l b:Addr) (items items2:Array Value) (n n2:Nat) (dd dd2:Option Addr) (sl sl2:Array (Option Value)) (ns ms:List D) (r:Bool) (hi:SVs items.toList ns) (hj:SVs items2.toList ms) (hr:ltDs ns ms=some r) :
  Meets (Builtin.«tuple.__lt__» ⟨[.ref l,.ref b],[]⟩)
   (fun _ R s=>s.heap.get? l=some { cls:=.type "tuple",dict:=dd,data:=.seq items n,slots:=sl }∧s.heap.get? b=some { cls:=.type "tuple",dict:=dd2,data:=.seq items2 n2,slots:=sl2 } ∧
    R (.ok (.ret (.bool r))) s) :=
 .of_wp fun prog w A R s h=>by
  obtain ⟨hp,g,d,tk,os⟩:=s; obtain ⟨hl,hb,h⟩:=h
  have f2:=AutoSeq1.sub_tuple_tuple
  have z1:items.size=ns.length:=by rw [← Paired.length hi]; simp
  have z2:items2.size=ms.length:=by rw [← Paired.length hj]; simp
  wp_walk using wpAny_loadPart' hl,wpAny_loadPart' hb,wpAny_forIn_list _ (fun rest b s'=>b.1=none∧s'=⟨hp,g,d,tk,os⟩∧∃ (vs ws:List Value) (ns' ms':List D),rest=vs.zip ws ∧
   SVs vs ns'∧SVs ws ms'∧ns'.length + items2.size=ms'.length + items.size∧ltDs ns' ms'=some r) _
  case turn =>
   rintro ⟨y,x⟩ rest b s' ⟨hb',rfl,vs,ws,ns',ms',hz,hvi,hwi,hlen,hR⟩
   cases hvi with
   | nil=>rw [List.zip_nil_left] at hz; cases hz
   | @cons u du vs' ns'' hu hvi' =>
    cases hwi with
    | nil=>rw [List.zip_nil_right] at hz; cases hz
    | @cons v dv ws' ms'' hv hwi' =>
     rw [List.zip_cons_cons] at hz
     injection hz with hyx hrest
     injection hyx with hy hx
     subst hy hx
     rw [ltDs_cons] at hR
     simp only [List.length_cons] at hlen
     have he:=sv_eq (A:=A.in1) (s:=⟨hp,g,d,tk,os⟩) hu hv
     refine wpAny_bind (he prog w _ _ ?_)
     cases e:eqD du dv with
     | true =>
      rw [e,if_pos rfl] at hR
      wp_walk
      exact ⟨rfl,rfl,_,_,_,_,hrest,hvi',hwi',by omega,hR⟩
     | false =>
      rw [e,if_neg Bool.false_ne_true] at hR
      have hri:=sv_lt (A:=A.in1) (s:=⟨hp,g,d,tk,os⟩) hu hv hR prog w
      wp_walk using hri
      exact ⟨_,rfl,by simpa using h⟩
  case fin =>
   rintro ⟨b1,b2⟩ s' ⟨hb',rfl,vs,ws,ns',ms',hz,hvi,hwi,hlen,hR⟩
   simp only at hb'
   subst hb'
   have hv:r=decide (items.size < items2.size):=by
    cases hvi with
    | nil =>
     cases hwi with
     | nil =>
      simp only [List.length_nil] at hlen
      simp [ltDs] at hR
      rw [hR]
      exact (decide_eq_false (by omega)).symm
     | cons hu hw =>
      simp only [List.length_nil,List.length_cons] at hlen
      simp [ltDs] at hR
      rw [hR]
      exact (decide_eq_true (by omega)).symm
    | cons hu hv =>
     cases hwi with
     | nil =>
      simp only [List.length_nil,List.length_cons] at hlen
      simp [ltDs] at hR
      rw [hR]
      exact (decide_eq_false (by omega)).symm
     | cons hu' hw =>
      rw [List.zip_cons_cons] at hz
      cases hz
   rw [hv] at h
   wp_walk
   exact ⟨_,rfl,by simpa [Builtin.Tuple.tupleCompareSizes] using h⟩
  case h =>
   exact ⟨rfl,rfl,items.toList,items2.toList,ns,ms,rfl,hi,hj,by omega,hr⟩
end
theorem lt_tupSV {prog:Program} {w:World} {A:Around} {E:Value→Shared→Prop} {s:Shared} {l b:Addr} {items items2:Array Value} {ns ms:List D} {r:Bool} {Q:Value→Shared→Prop} (hl:IsTup s.heap l items) (hb:IsTup s.heap b items2) (hi:SVs items.toList ns) (hj:SVs items2.toList ms)
  (hr:ltDs ns ms=some r) (hu:A.units < cLine) (h:Q (.bool r) s):wpAny (model prog w) A (compareOp .Lt (.ref l) (.ref b)) Q E s:=by
 obtain ⟨⟨cls,dd,data,sl⟩,ho,hc,n,hd⟩:=id hl
 obtain ⟨⟨cls2,dd2,data2,sl2⟩,ho2,hc2,n2,hd2⟩:=id hb
 simp only at hc hd hc2 hd2
 subst hc hd hc2 hd2
 exact richCompare_meets_room (op:=.Lt) ⟨_,ho,rfl⟩ ⟨_,ho2,rfl⟩ PySem.F.slot_tuple_lt PySem.F.entry_tuple_lt (PySem.F.args_tuple_lt_2 _ _) (tuple_lt_sv l b items items2 n n2 dd dd2 sl sl2 ns ms r hi hj hr)
  ⟨ho,ho2,show Value.bool r≠Value.notImplemented∧Q (.bool r) s from ⟨(fun x=>nomatch x),h⟩⟩ hu
end DW
end
section
set_option autoImplicit false
namespace DW
open PySem PySem.Spec PyProof.Rows L2
theorem keyOf_inj {a b:DKey} (h:keyOf a=keyOf b):a=b:=by
 cases a with
 | inl i=>cases b with
  | inl j=>simp only [keyOf,Sum.inl.injEq] at h; rw [h]
  | inr y=>cases h
 | inr x=>cases b with
  | inl j=>cases h
  | inr y =>
   simp only [keyOf,Sum.inr.injEq,Str.mk.injEq] at h
   have:x=y:=by simpa using congrArg Array.toList h
   rw [this]
theorem keysOf_inj {a b:List DKey} (h:a.map keyOf=b.map keyOf):a=b:=List.map_inj_right (fun _ _=>keyOf_inj) |>.mp h
section
variable {κ κ':Type} [DecidableEq κ] [DecidableEq κ']
theorem keys_mem (f:κ→κ') (inj:∀ a b,f a=f b→a=b) {ks:List κ} {kvs:List (κ'×V)} {k:κ} (h1:kvs.map (·.1)=ks.map f):(kvs.any fun kv=>decide (kv.1=f k))=true↔k∈ks:=by
 have e:(kvs.any fun kv=>decide (kv.1=f k))=(kvs.map (·.1)).any fun q=>decide (q=f k):=by rw [List.any_map]; rfl
 rw [e,h1,List.any_eq_true]
 constructor
 ·rintro ⟨q,hq,e⟩
  obtain ⟨k',hk,rfl⟩:=List.mem_map.mp hq
  have:=inj _ _ (of_decide_eq_true e)
  subst this
  exact hk
 ·intro hk
  exact ⟨f k,List.mem_map.mpr ⟨k,hk,rfl⟩,by simp⟩
end
section
variable {K:PySem.W.Frag} {H:Hp} {θ:List Addr} {μ:Mem}
theorem key_rep {d:D} {k:DKey} {v:V} (h:keyD d=some k) (r:Rp K H θ μ d v):v=kV (keyOf k):=by
 cases d with
 | int i=>simp only [keyD,Option.some.injEq] at h; subst h; exact inv_int r
 | str x=>simp only [keyD,Option.some.injEq] at h; subst h; exact (inv_str r).1
 | _=>simp [keyD] at h
theorem keys_rep:∀ {ds:List D} {ks:List DKey} {vs:List V},keyDs ds=some ks→Rps K H θ μ ds vs→vs=(ks.map keyOf).map kV
 | [],ks,vs,h,r=>by simp only [keyDs,Option.some.injEq] at h; subst h; rw [r.nil_inv]; rfl
 | d :: ds,ks,vs,h,r=>by
  obtain ⟨v,vr,rfl,r1,r2⟩:=r.cons_inv
  simp only [keyDs] at h
  split at h
  ·rename_i k hk
   cases e:keyDs ds with
   | none=>rw [e] at h; cases h
   | some ks' =>
    rw [e] at h
    simp only [Option.map_some,Option.some.injEq] at h
    subst h
    rw [List.map_cons,List.map_cons,key_rep hk r1,keys_rep e r2]
  ·cases h
theorem in_dict {neg:Bool} {d e:D} {x y:V} {Qd:QD} (wk:WOk K H θ μ) (rd:Rp K H θ μ d x) (re:Rp K H θ μ e y) (h:wInD neg d e μ Qd):∃ a o,y = .ref a∧DGet H a x o∧Qd (.bl (neg != o.isSome)) μ:=by
 unfold wInD at h
 split at h
 ·rename_i n
  obtain ⟨a,rfl,ha⟩:=inv_loc re
  split at h
  ·rename_i ks ds hn
   obtain ⟨kvs,e1,e2,e3⟩:=wk.cell n _ a hn ha
   split at h
   ·rename_i k hk
    refine ⟨a,valV kvs (keyOf k),rfl,by rw [key_rep hk rd]; exact DGet.k e1,?_⟩
    have z:(valV kvs (keyOf k)).isSome=hasK ks k:=by
     rw [← valV_any,Bool.eq_iff_iff,keys_mem keyOf (fun _ _=>keyOf_inj) e2,hasK_iff]
    rw [z]; exact h
   ·exact h.elim
  ·rename_i ks ds hn
   obtain ⟨kvs,e1,e2,e3⟩:=wk.cell n _ a hn ha
   split at h
   ·rename_i es
    split at h
    ·rename_i k hk
     obtain ⟨b,xs,rfl,hb,_,rs⟩:=inv_tup rd
     rw [keys_rep hk rs] at hb
     refine ⟨a,valV kvs (k.map keyOf),rfl,DGet.t e1 hb,?_⟩
     have z:(valV kvs (k.map keyOf)).isSome=hasK ks k:=by
      rw [← valV_any,Bool.eq_iff_iff,keys_mem (fun l:List DKey=>l.map keyOf) (fun _ _=>keysOf_inj) e2,hasK_iff]
     rw [z]; exact h
    ·exact h.elim
   ·exact h.elim
  ·exact h.elim
 ·exact h.elim
theorem len_dict {d:D} {v:V} {Qd:QD} (wk:WOk K H θ μ) (rd:Rp K H θ μ d v) (h:wLenD d μ Qd):∃ a kvs,v = .ref a∧H a=some (.dK kvs)∧Qd (.int kvs.length) μ:=by
 unfold wLenD at h
 split at h
 ·rename_i n
  obtain ⟨a,rfl,ha⟩:=inv_loc rd
  split at h
  ·rename_i ks ds hn
   obtain ⟨kvs,e1,e2,e3⟩:=wk.cell n _ a hn ha
   have l:kvs.length=ks.length:=by have:=congrArg List.length e2; simpa using this
   exact ⟨a,kvs,rfl,e1,by rw [l]; exact h⟩
  ·exact h.elim
 ·exact h.elim
end
end DW
end
section
set_option autoImplicit false
namespace DW
open PySem PySem.Spec PyProof.Rows L2
section
variable {X:Cx}
theorem sv_of {H:Hp} {θ:List Addr} {μ:Mem} {d e:D} {v:V} {u:Value} {b:Bool} (r:Rp X.K H θ μ d v) (ru:RelV v u) (h:(∃ i,d = .int i)∨∃ x,d = .str x):SV u d:=by
 rcases h with ⟨i,rfl⟩ | ⟨x,rfl⟩
 ·cases inv_int r; obtain ⟨t,rfl⟩:=ru; exact .inl ⟨i,t,rfl,rfl⟩
 ·cases (inv_str r).1; obtain ⟨t,rfl⟩:=ru; exact .inr ⟨x,t,rfl,rfl⟩
theorem sc2_cases {d:D} (h:sc2 d=true):(∃ i,d = .int i)∨∃ x,d = .str x:=by
 cases d <;> simp [sc2] at h
 ·exact .inl ⟨_,rfl⟩
 ·exact .inr ⟨_,rfl⟩
theorem svs_of {H:Hp} {θ:List Addr} {μ:Mem}:∀ {ds:List D} {vs:List V} {us:List Value},Rps X.K H θ μ ds vs→Vals vs us→ds.all sc2=true→SVs us ds
 | [],vs,us,r,rv,_=>by cases r.nil_inv; cases rv; exact .nil
 | d :: ds,vs,us,r,rv,h=>by
  obtain ⟨v,vr,rfl,h1,h2⟩:=r.cons_inv
  simp only [List.all_cons,Bool.and_eq_true] at h
  cases rv with
  | cons ru rr=>exact .cons (sv_of (e:=.non) (b:=true) h1 ru (sc2_cases h.1)) (svs_of h2 rr h.2)
theorem nonV {K:PySem.W.Frag} {H:Hp} {θ:List Addr} {μ:Mem} {d:D} {x:V} (r:Rp K H θ μ d x):decide (x = .non)=isNon d:=by
 cases d with
 | non=>cases inv_non r; rfl
 | bl b=>cases inv_bl r; rfl
 | int b=>cases inv_int r; rfl
 | str b=>cases (inv_str r).1; rfl
 | tup ds=>obtain ⟨a,xs,rfl,_⟩:=inv_tup r; rfl
 | lst ds=>obtain ⟨a,xs,rfl,_⟩:=inv_lst r; rfl
 | ro ds=>obtain ⟨a,xs,rfl,_⟩:=inv_ro r; rfl
 | loc n=>obtain ⟨a,rfl,_⟩:=inv_loc r; rfl
 | dic ks ds=>obtain ⟨a,xs,rfl,_⟩:=inv_dic r; rfl
 | fdc ks ds=>obtain ⟨a,o,xs,rfl,_⟩:=inv_fdc r; rfl
noncomputable def isItemV (its:List Value) (ds:List D) (x:D) (y:Value):Bool:=open Classical in if h:∃ j:Nat,its[j]? = some y then (match ds[h.choose]? with | some d=>eqD d x | none=>false) else false
theorem in_items {pins:List (Addr×Obj)} {σ:L2.St} {H:Hp} {s:Shared} {θ:List Addr} {μ:Mem} {d e:D} {x y:V} {v u:Value} {ds:List D} (I:Inv X pins σ H s) (wk:WOk X.K H θ μ) (re:Rp X.K H θ μ e y) (ry:RelV y u) (hq:seqOf μ e=some ds)
  (f1:flats 60 ds=true) (f2:flat 60 d=true) (rd:Rp X.K H θ μ d x) (rx:RelV x v) (hu:X.A.units + 64 < cLine) :
  ∃ (its:List Value) (a:Addr),u = .ref a∧(s.heap.IsList a its.toArray∨s.heap.IsTuple a its.toArray)∧(∀ w∈its.toArray,SeqAt.EqAt X.A.in1 s w v (isItemV its ds d w))∧its.toArray.any (isItemV its ds d)=ds.any fun d'=>eqD d' d:=by
 obtain ⟨a,xs,rfl,hs,rs⟩:=seqOf_sq wk re hq
 cases ry
 obtain ⟨its,rv,hl⟩:∃ its:List Value,Vals xs its∧(s.heap.IsList a its.toArray∨s.heap.IsTuple a its.toArray):=by
  rcases hs with h | h
  ·obtain ⟨its,rv,p,_⟩:=I.list h
   exact ⟨its,rv,.inl p.isList⟩
  ·obtain ⟨its,rv,p,_⟩:=I.tuple h
   exact ⟨its,rv,.inr p⟩
 obtain ⟨as0,ra0⟩:=reads_of I 60 d x v rd rx f2
 have fl:∀ (n:Nat) (l:List D),flats n l=true→∀ (j:Nat) (e:D),l[j]? = some e→flat n e=true:=by
  intro n l
  induction l with
  | nil=>intro _ j e h; simp at h
  | cons c l ih =>
   intro h j e he
   have h':flat n c=true∧flats n l=true:=by simpa [flats] using h
   cases j with
   | zero=>simp at he; subst he; exact h'.1
   | succ j=>exact ih h'.2 j e (by simpa using he)
 have at_:∀ (j:Nat) (w:Value),its[j]? = some w→∃ (e:D) (as:List Addr),ds[j]? = some e∧Reads s.heap w (pd e) as∧flat 60 e=true:=by
  intro j w hw
  have hj:j < its.length:=(List.getElem?_eq_some_iff.mp hw).1
  have hj2:j < ds.length:=by rw [rs.length,rv.length]; exact hj
  have he:ds[j]? = some ds[j]:=List.getElem?_eq_getElem hj2
  obtain ⟨z,z1,z2⟩:=rs.get he
  obtain ⟨w',w1,w2⟩:=rv.get z1
  rw [hw] at w1; cases w1
  obtain ⟨as,ra⟩:=reads_of I 60 ds[j] z w z2 w2 (fl 60 ds f1 j _ he)
  exact ⟨ds[j],as,he,ra,fl 60 ds f1 j _ he⟩
 have val:∀ (j:Nat) (w:Value) (e:D),its[j]? = some w→ds[j]? = some e→isItemV its ds d w=eqD e d:=by
  intro j w e hw he
  have hx:∃ j:Nat,its[j]? = some w:=⟨j,hw⟩
  unfold isItemV
  rw [dif_pos hx]
  obtain ⟨e1,as1,g1,g2,g3⟩:=at_ _ w hx.choose_spec
  obtain ⟨e2,as2,k1,k2,k3⟩:=at_ j w hw
  rw [he] at k1; cases k1
  rw [g1]
  have un:=SeqAt.Reads.unique (pd e1) (pd e) _ _ _ (canLay_pd _ _ g3) g2 k2
  show eqD e1 d=eqD e d
  rw [← eqv_pd 60 60 e1 d g3 f2,← eqv_pd 60 60 e d k3 f2,un]
 refine ⟨its,a,rfl,hl,fun w hw=>?_,?_⟩
 ·obtain ⟨j,hj⟩:=List.getElem?_of_mem (show w∈its by simpa using hw)
  obtain ⟨e,as,k1,k2,k3⟩:=at_ j w hj
  rw [val j w e hj k1,← eqv_pd 60 60 e d k3 f2]
  have hd:=depth_pd _ _ f2
  exact SeqAt.eqAt_reads (pd e) (pd d) X.A.in1 s w v as as0 k2 ra0 (canLay_pd _ _ k3) (canLay_pd _ _ f2) (by show X.A.units + 1 + _ < cLine; omega)
 ·have key:∀ (js:List Nat),(∀ j∈js,j < its.length)→(js.any fun j=>(its[j]?.map (isItemV its ds d)).getD false)=js.any fun j=>(ds[j]?.map fun d'=>eqD d' d).getD false:=by
   intro js
   induction js with
   | nil=>intro _; rfl
   | cons j js ih =>
    intro h
    have hj:=h j (by simp)
    have hj2:j < ds.length:=by rw [rs.length,rv.length]; exact hj
    rw [List.any_cons,List.any_cons,ih fun i hi=>h i (by simp [hi])]
    congr 1
    rw [List.getElem?_eq_getElem hj,List.getElem?_eq_getElem hj2]
    exact val j _ _ (List.getElem?_eq_getElem hj) (List.getElem?_eq_getElem hj2)
  have hlen:its.length=ds.length:=by rw [rs.length,rv.length]
  have all:∀ {α:Type} (l:List α) (p:α→Bool),l.any p=(List.range l.length).any fun j=>(l[j]?.map p).getD false:=by
   intro α l p
   rw [Bool.eq_iff_iff,List.any_eq_true,List.any_eq_true]
   constructor
   ·rintro ⟨z,hz,hp⟩
    obtain ⟨j,hj⟩:=List.getElem?_of_mem hz
    have:=(List.getElem?_eq_some_iff.mp hj).1
    exact ⟨j,by simpa using this,by rw [hj]; simpa using hp⟩
   ·rintro ⟨j,hj,hp⟩
    have hj':j < l.length:=by simpa using hj
    rw [List.getElem?_eq_getElem hj'] at hp
    exact ⟨l[j],List.getElem_mem hj',by simpa using hp⟩
  rw [List.any_toArray,all its,all ds,hlen]
  exact key _ fun j hj=>by rw [hlen]; simpa using hj
theorem cmp_ok {k:Nat} (hr:Room k X.A) (op:CmpOp):OpR X (compareOp op) (low2 X.K (wCmp op)):=by
 intro pins s σ H x y v u Q I rx ry h
 obtain ⟨d,e,θ,μ,Qd,wk,rd,re,hw,f⟩:=h
 have hu:X.A.units + 64 < cLine:=hr.units
 have bl:∀ {b:Bool} {s':Shared},Inv X pins σ H s'→Qd (.bl b) μ→EP X pins σ Q (.bool b) s':=fun I' q=>⟨.bl _,H,I',rfl,f.at wk rp_bl q⟩
 cases op with
 | Eq =>
  obtain ⟨f1,f2,q⟩:=hw
  obtain ⟨as,ra⟩:=reads_of I 60 d x v rd rx f1
  obtain ⟨bs,rb⟩:=reads_of I 60 e y u re ry f2
  refine SeqAt.compareEq_reads ra rb (canLay_pd _ _ f1) (canLay_pd _ _ f2) ?_ ?_
  ·have:=depth_pd _ _ f1
   omega
  ·rw [eqv_pd _ _ _ _ f1 f2]; exact bl I q
 | NotEq =>
  by_cases hd:∃ n,d = .loc n
  ·obtain ⟨n,rfl⟩:=hd
   have hw:wNeE n e μ Qd:=hw
   unfold wNeE at hw
   split at hw
   ·rename_i ds hn
    split at hw
    ·obtain ⟨a,rfl,ha⟩:=inv_loc rd
     cases rx
     obtain ⟨xs,hx,rs⟩:=wk.list hn ha
     obtain ⟨its,vi,pl,hz⟩:=I.list (SqL.of hx)
     obtain ⟨b,ys,rfl,hy,_,r2⟩:=inv_lst re
     cases ry
     cases r2.nil_inv
     obtain ⟨its2,vi2,pl2,hz2⟩:=I.list (SqL.of hy)
     have e2:its2=[]:=List.length_eq_zero_iff.mp vi2.length.symm
     subst e2
     have l1:its.length=ds.length:=by rw [← vi.length,← rs.length]
     cases ds with
     | nil =>
      have e1:its=[]:=List.length_eq_zero_iff.mp (by rw [l1]; rfl)
      subst e1
      exact SeqAt.RcNeAt.lists (e:=fun _=>true) pl.isList pl2.isList rfl (by omega) (fun j h1 h2=>absurd h1 (by simp)) _ _ _ _ (bl I hw)
     | cons d0 ds =>
      exact SeqAt.RcNeAt.lists_lengths pl.isList pl2.isList (by simp at l1 ⊢; rw [← List.length_eq_zero_iff,l1]; simp) (by omega) _ _ _ _ (bl I hw)
    ·exact hw.elim
   ·exact hw.elim
  have hw:flat 60 d=true∧flat 60 e=true∧Qd (.bl (!eqD d e)) μ:=by
   cases d with
   | loc n=>exact absurd ⟨n,rfl⟩ hd
   | _=>exact hw
  obtain ⟨f1,f2,q⟩:=hw
  obtain ⟨as,ra⟩:=reads_of I 60 d x v rd rx f1
  obtain ⟨bs,rb⟩:=reads_of I 60 e y u re ry f2
  refine SeqAt.compareNe_reads ra rb (canLay_pd _ _ f1) (canLay_pd _ _ f2) ?_ ?_
  ·have:=depth_pd _ _ f1
   omega
  ·rw [eqv_pd _ _ _ _ f1 f2]; exact bl I q
 | Lt =>
  simp only [wCmp] at hw
  cases d with
  | int i =>
   cases e with
   | int j=>simp only [ltD] at hw; exact op_lt pins s σ H x y v u Q I rx ry ⟨i,j,inv_int rd,inv_int re,f.at wk rp_bl hw⟩
   | _=>simp [ltD] at hw
  | str a =>
   cases e with
   | str b =>
    simp only [ltD] at hw
    refine op_lt_str pins s σ H x y v u Q I rx ry ⟨_,_,(inv_str rd).1,(inv_str re).1,f.at wk rp_bl ?_⟩
    rw [ltCs_eq] at hw
    simpa using hw
   | _=>simp [ltD] at hw
  | tup ds =>
   cases e with
   | tup es =>
    simp only [ltD] at hw
    split at hw
    ·rename_i r hl
     split at hl
     ·rename_i hsc
      rw [Bool.and_eq_true] at hsc
      obtain ⟨a,xs,rfl,h1,_,r1⟩:=inv_tup rd
      obtain ⟨b,ys,rfl,h2,_,r2⟩:=inv_tup re
      cases rx; cases ry
      obtain ⟨its,rv1,p1,_⟩:=I.tuple (SqT.of h1)
      obtain ⟨jts,rv2,p2,_⟩:=I.tuple (SqT.of h2)
      exact lt_tupSV p1 p2 (by simpa using svs_of r1 rv1 hsc.1) (by simpa using svs_of r2 rv2 hsc.2) hl (by omega) (bl I hw)
     ·cases hl
    ·exact hw.elim
   | _=>simp [ltD] at hw
  | _=>simp [ltD] at hw
 | LtE =>
  cases d with
  | int i =>
   cases e with
   | int j=>exact op_le pins s σ H x y v u Q I rx ry ⟨i,j,inv_int rd,inv_int re,f.at wk rp_bl hw⟩
   | _=>exact hw.elim
  | str a =>
   cases e with
   | str b =>
    have hw:Qd (.bl (!ltCs b a)) μ:=hw
    cases (inv_str rd).1
    cases (inv_str re).1
    obtain ⟨t,rfl⟩:=rx
    obtain ⟨t',rfl⟩:=ry
    refine PySem.P.le_str ?_
    rw [ltCs_eq] at hw
    refine bl I ?_
    simpa using hw
   | _=>exact hw.elim
  | _=>exact hw.elim
 | Gt =>
  cases d with
  | int i =>
   cases e with
   | int j=>exact op_gt pins s σ H x y v u Q I rx ry ⟨i,j,inv_int rd,inv_int re,f.at wk rp_bl hw⟩
   | _=>exact hw.elim
  | _=>exact hw.elim
 | GtE =>
  cases d with
  | int i =>
   cases e with
   | int j=>exact op_ge pins s σ H x y v u Q I rx ry ⟨i,j,inv_int rd,inv_int re,f.at wk rp_bl hw⟩
   | _=>exact hw.elim
  | _=>exact hw.elim
 | Is =>
  cases e with
  | non =>
   refine op_isN pins s σ H x y v u Q I rx ry ⟨inv_non re,f.at wk rp_bl ?_⟩
   have hw:Qd (.bl (isNon d)) μ:=hw
   rw [nonV rd]; exact hw
  | bl b =>
   cases d with
   | bl a =>
    cases inv_bl rd; cases inv_bl re
    cases rx; cases ry
    exact is_bool (bl I hw)
   | _=>exact hw.elim
  | _=>exact hw.elim
 | IsNot =>
  cases e with
  | non =>
   refine op_notN pins s σ H x y v u Q I rx ry ⟨inv_non re,f.at wk rp_bl ?_⟩
   have hw:Qd (.bl (!isNon d)) μ:=hw
   rw [nonV rd]; exact hw
  | bl b =>
   cases d with
   | bl a =>
    cases inv_bl rd; cases inv_bl re
    cases rx; cases ry
    exact isnot_bool (bl I hw)
   | _=>exact hw.elim
  | _=>exact hw.elim
 | In =>
  have hw':(∃ t,e = .str t)∨(∃ ds,seqOf μ e=some ds∧flats 60 ds=true∧flat 60 d=true∧Qd (.bl (ds.any fun d'=>eqD d' d)) μ)∨wInD false d e μ Qd:=by
   cases e with
   | str t=>exact .inl ⟨t,rfl⟩
   | _ =>
    right
    simp only [wCmp] at hw
    split at hw
    ·rename_i ds hq; exact .inl ⟨ds,hq,hw⟩
    ·exact .inr hw
  rcases hw' with ⟨t,rfl⟩ | ⟨ds,hq,f1,f2,q⟩ | hD
  ·cases d with
   | str a =>
    cases a with
    | nil=>exact hw.elim
    | cons c r =>
     cases r with
     | nil =>
      refine op_in_str pins s σ H x y v u Q I rx ry ⟨_,_,(inv_str rd).1,(inv_str re).1,f.at wk rp_bl ?_⟩
      have q:Qd (.bl (t.contains c)) μ:=hw
      have q2:=StrLaws.found_one ⟨t.toArray⟩ c
      rw [show (⟨[c].toArray⟩:Str)=⟨#[c]⟩ from rfl,q2]
      simpa using q
     | cons _ _=>exact hw.elim
   | _=>exact hw.elim
  ·obtain ⟨its,a,e1,hsq,hany⟩:=in_items I wk re ry hq f1 f2 rd rx hu
   subst e1
   rcases hsq with hsq | hsq
   ·exact SeqAt.in_listAt _ hsq (fun y hy=>(hany.1 y hy)) (bl I (by rw [hany.2]; exact q))
   ·exact SeqAt.in_tupleAt _ hsq (fun y hy=>(hany.1 y hy)) (bl I (by rw [hany.2]; exact q))
  ·obtain ⟨a,o,rfl,g,q⟩:=in_dict wk rd re hD
   cases (show u=Value.ref a from ry)
   exact d_in (by omega) I g rx fun s' I'=>bl I' (by simpa using q)
 | NotIn =>
  have hw':(∃ t,e = .str t)∨(∃ ds,seqOf μ e=some ds∧flats 60 ds=true∧flat 60 d=true∧Qd (.bl (!ds.any fun d'=>eqD d' d)) μ)∨wInD true d e μ Qd:=by
   cases e with
   | str t=>exact .inl ⟨t,rfl⟩
   | _ =>
    right
    simp only [wCmp] at hw
    split at hw
    ·rename_i ds hq; exact .inl ⟨ds,hq,hw⟩
    ·exact .inr hw
  rcases hw' with ⟨t,rfl⟩ | ⟨ds,hq,f1,f2,q⟩ | hD
  ·cases d with
   | str a =>
    cases a with
    | nil=>exact hw.elim
    | cons c r =>
     cases r with
     | nil =>
      refine op_notin_str pins s σ H x y v u Q I rx ry ⟨_,_,(inv_str rd).1,(inv_str re).1,f.at wk rp_bl ?_⟩
      have q:Qd (.bl (!t.contains c)) μ:=hw
      have q2:=StrLaws.found_one ⟨t.toArray⟩ c
      rw [show (⟨[c].toArray⟩:Str)=⟨#[c]⟩ from rfl,q2]
      simpa using q
     | cons _ _=>exact hw.elim
   | _=>exact hw.elim
  ·obtain ⟨its,a,e1,hsq,hany⟩:=in_items I wk re ry hq f1 f2 rd rx hu
   subst e1
   rcases hsq with hsq | hsq
   ·exact SeqAt.notIn_listAt _ hsq (fun y hy=>(hany.1 y hy)) (bl I (by rw [hany.2]; exact q))
   ·exact SeqAt.notIn_tupleAt _ hsq (fun y hy=>(hany.1 y hy)) (bl I (by rw [hany.2]; exact q))
  ·obtain ⟨a,o,rfl,g,q⟩:=in_dict wk rd re hD
   cases (show u=Value.ref a from ry)
   exact d_notIn (by omega) I g rx fun s' I'=>bl I' (by simpa using q)
end
end DW
end
section
set_option autoImplicit false
set_option maxHeartbeats 2000000
namespace DW
open PySem PySem.Spec PyProof.Rows L2
section
variable {X:Cx} {pins:List (Addr×Obj)} {σ:L2.St} {H:Hp} {s:Shared} {θ:List Addr} {μ:Mem}
noncomputable def tDict1 (key:Key) (v:V):TE:=fun _ H Q=>∀ p,H p=none→Q (.ref p) (upd H p (.dK [(key,v)]))
theorem upd_upd {H:Hp} {p:Addr} {a b:HO}:upd (upd H p a) p b=upd H p b:=by
 funext q
 unfold upd
 split <;> rfl
theorem sys_lt {pins:List (Addr×Obj)} {σ:L2.St} {H:Hp} {s:Shared} (I:Inv X pins σ H s):sysModules < s.heap.objs.size:=by
 have z:=(I.mod.glob.keeps I.bk).lt
 exact Nat.lt_trans (by decide) z
theorem pe_dict1 {key:Key} {ke ve:Expr} {v:V} {pos:Pos} (hk:PE X ke (tC (kV key))) (hv:PE X ve (tC v)):PE X (.Dict [some ke] [ve] pos) (tDict1 key v):=by
 intro pins s σ H Q I q
 have hn:=I.hok.fresh (Nat.le_refl s.heap.objs.size)
 have e0:ObjOk X.prog X.w (upd H s.heap.objs.size (.dK [])) (s.heap.push { cls:=.type "dict",data:=.dict #[] }) s.heap.objs.size (.dK []) :=
  ⟨Nat.zero_le _,beq_eq_false_iff_ne.mpr (Ne.symm (Nat.ne_of_lt (sys_lt I))),[],.nil,Heap.DictOf.new s.heap⟩
 have I1:=I.laid (a:=s.heap.objs.size) (o:=.dK []) (h':=s.heap.push { cls:=.type "dict",data:=.dict #[] }) (t':=s.toks) (fun _ _ z=>Heap.get?_push_of_some _ z) (Nat.le_refl _) e0
 refine wpAny_Dict_walk (knd:=mixKind X.prog X.w) rfl rfl (by simp) (by simp) (pairTrees_cons_walk ?_)
 refine thn (hk pins _ σ _ (fun x H1=>x=kV key∧H1=upd H s.heap.objs.size (.dK [])) I1 ⟨rfl,rfl⟩) fun u s1 ⟨x,H1,I2,rx,ex,eh⟩=>?_
 subst ex eh
 refine thn (hv pins s1 σ _ (fun y H2=>y=v∧H2=upd H s.heap.objs.size (.dK [])) I2 ⟨rfl,rfl⟩) fun w s2 ⟨y,H2,I3,ry,ey,eh⟩=>?_
 subst ey eh
 refine pairTrees_nil_walk ?_
 obtain ⟨_,hs,vs,kv,dd⟩:=(show ObjOk X.prog X.w _ s2.heap s.heap.objs.size (.dK []) from I3.hok s.heap.objs.size _ upd_same)
 cases kv
 have hkey:keyIs key u=true:=by
  cases key with
  | inl i=>obtain ⟨t,rfl⟩:=rx; exact keyIs_int i t
  | inr z=>obtain ⟨t,rfl⟩:=rx; exact keyIs_str z t
 refine ⟨[(key,w)],⟨hkey,rfl,trivial⟩,dd,fun h' dd' hsb=>?_⟩
 have he:∃ q,h'.get? s.heap.objs.size=some q:=let ⟨q,_,_,hq,_⟩:=dd'; ⟨q,hq⟩
 have nw:ObjOk X.prog X.w (upd (upd H s.heap.objs.size (.dK [])) s.heap.objs.size (.dK [(key,y)])) h' s.heap.objs.size (.dK [(key,y)]) :=
  ⟨by rw [sizeLine_eq]; simp,hs,[(key,w)],.cons ⟨rfl,ry⟩ .nil,dd'⟩
 have I4:=I3.write (x:=s.heap.objs.size) (e:=s.heap.objs.size) (o:=.dK [(key,y)]) (h':=h') (t':=s2.toks + 1) (by rw [upd_same]; exact True.intro) (.inl rfl) (fun b o nb z=>hsb.extBut _ _ nb z) he nw
 rw [upd_upd] at I4
 exact ⟨.ref s.heap.objs.size,_,I4,rfl,q _ hn⟩
theorem new_dict {K:PySem.W.Frag} {H:Hp} {θ:List Addr} {μ:Mem} {Qd:QD} {Q:VK} {p:Addr} {k:DKey} {i:Int} (wk:WOk K H θ μ) (f:Fin K H θ μ Qd Q) (h:Qd (.loc μ.length) (μ ++ [.dic [k] [.int i]])) (hp:H p=none):Q (.ref p) (upd H p (.dK [(keyOf k,.int i)])):=by
 have g:Grow H θ μ (upd H p (.dK [(keyOf k,.int i)])) (θ ++ [p]) (μ ++ [.dic [k] [.int i]]):=Grow.new wk hp
 refine f (.loc μ.length) (.ref p) _ (θ ++ [p]) (μ ++ [.dic [k] [.int i]]) (wk.new (c:=.dic [k] [.int i]) hp (show CellOk K _ _ _ p (.dic [k] [.int i]) from ⟨_,upd_same,rfl,Reps.one rp_int⟩)) g ?_ h
 unfold Rep
 exact ⟨p,rfl,by rw [← wk.len]; simp⟩
end
end DW
end
section
set_option autoImplicit false
namespace DW
open PySem PySem.Spec PyProof.Rows L2
section
variable {X:Cx}
end
end DW
end
section
set_option autoImplicit false
namespace DW
open PySem PySem.Spec PyProof.Rows L2
section
variable {X:Cx}
theorem truV_of {K:PySem.W.Frag} {H:Hp} {θ:List Addr} {μ:Mem} {d:D} {x:V} {b:Bool} (wk:WOk K H θ μ) (r:Rp K H θ μ d x) (h:truth μ d=some b):TruV K x H b:=by
 cases d with
 | non=>cases inv_non r; simp only [truth,Option.some.injEq] at h; exact h.symm
 | bl c=>cases inv_bl r; simp only [truth,Option.some.injEq] at h; exact h.symm
 | int i=>cases inv_int r; simp only [truth,Option.some.injEq] at h; exact h.symm
 | str y =>
  obtain ⟨rfl,hy⟩:=inv_str r
  simp only [truth,lenOf,Option.map_some,Option.some.injEq] at h
  refine ⟨by simpa [Str.length] using hy,?_⟩
  rw [← h]
  simp [Str.length]
  cases y <;> simp <;> omega
 | fdc ks ds=>simp [truth,lenOf,seqOf] at h
 | dic ks ds =>
  obtain ⟨a,kvs,rfl,h1,_,h2,h3⟩:=inv_dic r
  simp only [truth,Option.some.injEq] at h
  refine .inr (.inr ⟨kvs,h1,?_⟩)
  have:=congrArg List.length h2
  simp at this
  rw [← h,← this]
  cases kvs <;> simp
 | tup ds =>
  simp only [truth,lenOf,seqOf,Option.map_some,Option.some.injEq] at h
  obtain ⟨a,xs,rfl,hs,rs⟩:=seqOf_sq wk r (show seqOf μ (.tup ds)=some ds from rfl)
  have e:b = !xs.isEmpty:=by rw [← h,rs.length]; cases xs <;> simp
  rcases hs with hs | hs
  ·exact .inl ⟨xs,hs,e⟩
  ·exact .inr (.inl ⟨xs,hs,e⟩)
 | lst ds =>
  simp only [truth,lenOf,seqOf,Option.map_some,Option.some.injEq] at h
  obtain ⟨a,xs,rfl,hs,rs⟩:=seqOf_sq wk r (show seqOf μ (.lst ds)=some ds from rfl)
  have e:b = !xs.isEmpty:=by rw [← h,rs.length]; cases xs <;> simp
  rcases hs with hs | hs
  ·exact .inl ⟨xs,hs,e⟩
  ·exact .inr (.inl ⟨xs,hs,e⟩)
 | ro ds =>
  simp only [truth,lenOf,seqOf,Option.map_some,Option.some.injEq] at h
  obtain ⟨a,xs,rfl,hs,rs⟩:=seqOf_sq wk r (show seqOf μ (.ro ds)=some ds from rfl)
  have e:b = !xs.isEmpty:=by rw [← h,rs.length]; cases xs <;> simp
  rcases hs with hs | hs
  ·exact .inl ⟨xs,hs,e⟩
  ·exact .inr (.inl ⟨xs,hs,e⟩)
 | loc n =>
  simp only [truth,lenOf] at h
  cases q:seqOf μ (.loc n) with
  | none=>rw [q] at h; cases h
  | some ds =>
   rw [q] at h
   simp only [Option.map_some,Option.some.injEq] at h
   obtain ⟨a,xs,rfl,hs,rs⟩:=seqOf_sq wk r q
   have e:b = !xs.isEmpty:=by rw [← h,rs.length]; cases xs <;> simp
   rcases hs with hs | hs
   ·exact .inl ⟨xs,hs,e⟩
   ·exact .inr (.inl ⟨xs,hs,e⟩)
theorem pt_truD {a:Expr} {wa:WE} (ha:PE X a (LE X.K wa)) (he:∀ whole,isTrue a X.env whole=(do let v ← whole; standAt a.pos; holding [v] (truthy v))) :
  PT X a (LT X.K fun ρ μ Q=>wa ρ μ fun d μ1=>wTru d μ1 Q):=PT.wk (pt_truth ha he) fun σ H Q h=>by
 obtain ⟨ρ,θ,μ,Qd,s,h,f⟩:=h
 refine ⟨ρ,θ,μ,_,s,h,fun d v H1 θ1 μ1 w1 g1 r1 h1=>?_⟩
 unfold wTru at h1
 split at h1
 ·rename_i b e
  exact ⟨b,truV_of w1 r1 e,f b H1 θ1 μ1 w1 g1 h1⟩
 ·exact h1.elim
theorem kit_tab (K:PySem.W.Frag):∀ a∈["NoneType","bool","int","str","tuple","list","dict"],∀ b∈["int","bool","str","tuple","list","dict"],PySem.W.kitOne K (.type a) (.type b)=some (isTy a b):=by
 intro a ha b hb
 simp only [List.mem_cons,List.not_mem_nil,or_false] at ha hb
 rcases ha with rfl | rfl | rfl | rfl | rfl | rfl | rfl <;> rcases hb with rfl | rfl | rfl | rfl | rfl | rfl <;> first | rfl | decide
theorem tyOf_TyOf {K:PySem.W.Frag} {H:Hp} {θ:List Addr} {μ:Mem} {d:D} {x:V} {t:String} (wk:WOk K H θ μ) (r:Rp K H θ μ d x) (h:tyOf μ d=some t):TyOf K H x (.type t)∧t∈["NoneType","bool","int","str","tuple","list","dict"]:=by
 cases d with
 | non=>cases inv_non r; cases h; exact ⟨.non,by simp⟩
 | bl c=>cases inv_bl r; cases h; exact ⟨.bl _,by simp⟩
 | int i=>cases inv_int r; cases h; exact ⟨.int _,by simp⟩
 | str y=>cases (inv_str r).1; cases h; exact ⟨.str _,by simp⟩
 | dic ks ds=>obtain ⟨a,kvs,rfl,h1,_⟩:=inv_dic r; cases h; exact ⟨.dK h1,by simp⟩
 | fdc ks ds=>cases h
 | tup ds=>obtain ⟨a,kvs,rfl,h1,_⟩:=inv_tup r; cases h; exact ⟨.tup h1,by simp⟩
 | lst ds=>obtain ⟨a,kvs,rfl,h1,_⟩:=inv_lst r; cases h; exact ⟨.lst h1,by simp⟩
 | ro ds=>cases h
 | loc n =>
  obtain ⟨a,rfl,h1⟩:=inv_loc r
  simp only [tyOf] at h
  split at h
  ·rename_i es hn
   cases h
   obtain ⟨xs,h2,_⟩:=wk.list hn h1
   exact ⟨.lst h2,by simp⟩
  ·rename_i ks es hn
   cases h
   obtain ⟨kvs,h2,_⟩:=wk.cell n _ a hn h1
   exact ⟨.dK h2,by simp⟩
  ·cases h
theorem boot_tys:∀ b∈["int","bool","str","tuple","list","dict"],bootBuiltins (Str.ofString b)=some (.type b)∧Str.ofString b≠"__name__"∧(Str.ofString b == ("__debug__" : Str))=false:=by
 intro b hb
 simp only [List.mem_cons,List.not_mem_nil,or_false] at hb
 rcases hb with rfl | rfl | rfl | rfl | rfl | rfl <;> exact ⟨by decide +kernel,by decide +kernel,by decide +kernel⟩
theorem boot_isinst:bootBuiltins "isinstance" = some (.builtin "isinstance"):=by decide +kernel
theorem call_isinst:CallR X (.builtin "isinstance") (fun xs H Q=>∃ x t c,xs=[x,.ty c]∧TyOf X.K H x (.type t)∧t∈["NoneType","bool","int","str","tuple","list","dict"]∧c∈["int","bool","str","tuple","list","dict"]∧Q (.bl (isTy t c)) H):=by
 intro pins s σ H xs us Q I r h
 obtain ⟨x,t,c,rfl,ty,ht,hc,q⟩:=h
 obtain ⟨u,w',rfl,rx,ry⟩:=vals2 r
 cases ry
 exact isinst_ok I rx ty (kit_tab X.K t ht c hc) fun tk=>⟨.bl _,H,I.tok tk,rfl,q⟩
theorem pe_isinD {a:Expr} {wa:WE} {t:String} {y z:Str} {p p2 pos:Pos} (ha:PE X a (LE X.K wa)) (ey:y=Str.ofString "isinstance") (ht:t∈["int","bool","str","tuple","list","dict"]) (ez:z=Str.ofString t) (g1:Gl X y) (g2:Gl X z) (m1:X.mg y=none) (m2:X.mg z=none)
  (hs:starEach [a,.Name z p2] X.env=(false,eval a X.env) :: starEach [.Name z p2] X.env) :
  PE X (.Call (.Name y p) [a,.Name z p2] [] pos) (LE X.K fun ρ μ Q=>wa ρ μ fun d μ1=>wIsin t d μ1 Q):=by
 subst ey ez
 obtain ⟨b1,b2,b3⟩:=boot_tys t ht
 have hz:PE X (.Name (Str.ofString t) p2) (tC (.ty t)):=pe_bltn g2 m2 b1 rfl b2 b3
 refine PE.wk (pe_callB (x:=Str.ofString "isinstance") call_isinst g1 m1 boot_isinst (pa_cons ha (pa_cons hz pa_nil) hs) (by decide +kernel) (by decide +kernel) hs rfl) fun σ H Q h=>?_
 obtain ⟨ρ,θ,μ,Qd,s,h,f⟩:=h
 refine ⟨ρ,θ,μ,_,s,h,fun d v H1 θ1 μ1 w1 g1 r1 h1=>?_⟩
 unfold wIsin at h1
 split at h1
 ·rename_i ty e
  obtain ⟨k1,k2⟩:=tyOf_TyOf w1 r1 e
  exact ⟨v,ty,t,rfl,k1,k2,ht,f _ _ H1 θ1 μ1 w1 g1 rp_bl h1⟩
 ·exact h1.elim
theorem ixD_eq (n:Nat) (i:Int):ixD n i=ixN n i:=rfl
theorem reps_at {K:PySem.W.Frag} {H:Hp} {θ:List Addr} {μ:Mem} {ds:List D} {xs:List V} {i:Int} {d:D} (r:Rps K H θ μ ds xs) (h:(ixD ds.length i).bind (ds[·]?)=some d):∃ v,atI xs i=some v∧Rp K H θ μ d v:=by
 rw [r.length,ixD_eq] at h
 cases q:ixN xs.length i with
 | none=>rw [q] at h; cases h
 | some j =>
  rw [q] at h
  obtain ⟨v,e1,e2⟩:=r.get (i:=j) h
  exact ⟨v,by unfold atI; rw [q]; exact e1,e2⟩
theorem idx_ok:IxR X (low2 X.K wIdx):=by
 intro value slice pins s σ H x y v u Q I rx ry h hs
 obtain ⟨d,e,θ,μ,Qd,wk,rd,re,hw,f⟩:=h
 unfold wIdx at hw
 split at hw
 ·rename_i z i
  cases inv_int re
  obtain ⟨rfl,hz⟩:=inv_str rd
  split at hw
  ·rename_i c hc
   refine ix_str value slice pins s σ H _ _ v u Q I rx ry ⟨_,i,c,rfl,rfl,by simpa [Str.length] using hz,?_,f.at wk (rp_str (x:=[c]) (by simp [sizeLine_eq])) hw⟩ hs
   unfold atI
   simpa [ixD_eq] using hc
  ·exact hw.elim
 ·rename_i x' i hne
  cases inv_int re
  split at hw
  ·rename_i ds hq
   obtain ⟨a,xs,rfl,hx,r⟩:=seqOf_sq wk rd hq
   split at hw
   ·rename_i d' hd
    obtain ⟨w',e1,e2⟩:=reps_at r hd
    rcases hx with hx | hx
    ·exact ix_list value slice pins s σ H _ _ v u Q I rx ry ⟨a,xs,i,w',rfl,rfl,hx,e1,f.at wk e2 hw⟩ hs
    ·exact ix_tup value slice pins s σ H _ _ v u Q I rx ry ⟨a,xs,i,w',rfl,rfl,hx,e1,f.at wk e2 hw⟩ hs
   ·exact hw.elim
  ·exact hw.elim
 ·exact hw.elim
theorem sIxD_eq (n d:Nat) (o:Option Int):sIxD n d o=HT.sIx n d o:=by
 cases o with
 | none=>rfl
 | some v=>first | rfl | (simp only [sIxD,HT.sIx]; done) | (simp only [sIxD,HT.sIx]; split <;> omega)
noncomputable def lowSl (K:PySem.W.Frag) (m:Bool):V→Option Int→Option Int→Hp→VK→Prop:=fun x lo hi H Q=>∃ d θ μ Qd,WOk K H θ μ∧Rp K H θ μ d x∧wSlc m d lo hi μ Qd∧Fin K H θ μ Qd Q
theorem tup_whole {prog:Program} {w:World} {A:Around} {E:Value→Shared→Prop} {s:Shared} {t sl:Addr} {its:Array Value} {vl vu:Value} {lo hi:Option Int} {Q:Value→Shared→Prop}
  (ht:IsTup s.heap t its) (hs:s.heap.IsSliceOf sl vl vu .none) (pl:IsPart vl lo) (pu:IsPart vu hi) (h0:HT.sIx its.size 0 lo=0) (h1:HT.sIx its.size its.size hi=its.size) (h:Q (.ref t) s) :
  wpAny (model prog w) A (getItem (.ref t) (.ref sl)) Q E s:=by
 have ts:s.TypeIs (.ref sl) "slice":=by
  obtain ⟨os,a,b,_⟩:=id hs
  exact ⟨os,a,b⟩
 unfold getItem
 (try with_reducible refine wpAny_holding ?_)
 (first | refine wpAny_bind (wpAny_pure ?_) | skip)
 refine wpAny_bind
  (wpAny_sequenceKey ht.typeIs (by decide) ?_)
 refine wpAny_bind (wpAny_callSpecial?_slot
  (name:=Str.ofString "__getitem__") ht.typeIs
  PyProof.Rows.slot_tuple_getitem (wpAny_call_entry
   PyProof.Rows.slot_tuple_getitem ht.typeIs PyProof.Rows.entry_tuple_getitem ?_ (PyProof.Rows.args_tuple_getitem _ _)))
 show wpAny _ _ (Builtin.Tuple.tupleItemsOf _ >>= _) _ _ s
 refine wpAny_bind (PyProof.Rows.tupleItemsOf_ ht
  (wpAny_bind (wpAny_typeOf ts ?_)))
 rw [if_pos (by decide)]
 refine wpAny_bind (HT.sliceApplied_gen hs pl pu ?_)
 rw [h0,h1]
 show wpAny _ _ (if ((((0:Nat):Int) == 0 && (1:Int) == 1 && (its.size - 0) == its.size)=true) then _ else _) _ _ s
 rw [if_pos (by simp)]
 first
  | exact wpAny_bind (wpAny_bind (m:=Builtin.Tuple.tupleIsExact _) (wpAny_bind (wpAny_typeOf ht.typeIs (wpAny_pure (wpAny_bind (wpAny_rule (wpAny_bind (wpAny_pure ⟨_,rfl,wpAny_pure h⟩))))))))
  | exact wpAny_bind (m:=Builtin.Tuple.tupleIsExact _) (wpAny_bind (wpAny_typeOf ht.typeIs (wpAny_pure (by
    show wpAny _ _ (if ((Value.type "tuple" == Value.type "tuple")=true) then _ else _) _ _ s
    rw [if_pos (by decide)]
    first
     | exact wpAny_bind (wpAny_rule (wpAny_pure ⟨_,rfl,wpAny_pure h⟩))
     | exact wpAny_bind (wpAny_rule (wpAny_bind (wpAny_pure (wpAny_pure ⟨_,rfl,wpAny_pure h⟩))))
     | exact wpAny_bind (wpAny_rule (wpAny_bind (wpAny_pure ⟨_,rfl,wpAny_pure h⟩)))))))
theorem part_of {v:Value} {o:Option Int} (h:IsPart v o):∃ l:Option (Int×Tok),partValue l=v∧l.map (·.1)=o:=by
 cases h with
 | none=>exact ⟨none,rfl,rfl⟩
 | int i t=>exact ⟨some (i,t),rfl,rfl⟩
theorem str_picks {z:List Nat} {lo hi:Option Int} (h1:∀ i,lo=some i→0≤i) (h2:∀ i,hi=some i→0≤i) :
  Builtin.Str.strSliceIndices lo hi 1 z.length=Builtin.Str.strSliceIndices (some ((sIxD z.length 0 lo:Nat):Int)) (some ((sIxD z.length z.length hi:Nat):Int)) 1 z.length:=by
 have e1:∀ (d:Nat) (i:Int),0≤i→((sIxD z.length d (some i):Nat):Int)=min i z.length:=fun d i a=>by unfold sIxD; simp only [show ¬ i < 0 by omega,if_false]; omega
 have c0:((sIxD z.length 0 none:Nat):Int)=0:=rfl
 have c1:((sIxD z.length z.length none:Nat):Int)=z.length:=rfl
 have k0:∀ hi,Builtin.Str.strSliceIndices none hi 1 z.length=Builtin.Str.strSliceIndices (some 0) hi 1 z.length:=fun hi=>by
  unfold Builtin.Str.strSliceIndices
  have:max (0:Int) (min 0 (z.length:Int))=0:=by omega
  simp [this]
 have k1:∀ lo,Builtin.Str.strSliceIndices lo none 1 z.length=Builtin.Str.strSliceIndices lo (some (z.length:Int)) 1 z.length:=fun lo=>by
  unfold Builtin.Str.strSliceIndices
  have h:¬ ((z.length:Int) < 0):=by omega
  have:max (0:Int) (min (z.length:Int) (z.length:Int))=z.length:=by omega
  simp [h,this]
 have k2:∀ (i:Int) hi,0≤i→Builtin.Str.strSliceIndices (some i) hi 1 z.length=Builtin.Str.strSliceIndices (some (min i z.length)) hi 1 z.length:=fun i hi a=>by
  unfold Builtin.Str.strSliceIndices
  have h:¬ (i < 0):=by omega
  have h':¬ (min i (z.length:Int) < 0):=by omega
  have hm:min (min i (z.length:Int)) (z.length:Int)=min i (z.length:Int):=by omega
  simp [h,h',hm]
 have k3:∀ (i:Int) lo,0≤i→Builtin.Str.strSliceIndices lo (some i) 1 z.length=Builtin.Str.strSliceIndices lo (some (min i z.length)) 1 z.length:=fun i lo a=>by
  unfold Builtin.Str.strSliceIndices
  have h:¬ (i < 0):=by omega
  have h':¬ (min i (z.length:Int) < 0):=by omega
  have hm:min (min i (z.length:Int)) (z.length:Int)=min i (z.length:Int):=by omega
  simp [h,h',hm]
 cases lo with
 | none =>
  cases hi with
  | none=>rw [c0,c1,k0,k1]
  | some j=>rw [c0,e1 _ j (h2 j rfl),k0,k3 j _ (h2 j rfl)]
 | some i =>
  rw [e1 _ i (h1 i rfl),k2 i _ (h1 i rfl)]
  cases hi with
  | none=>rw [c1,k1]
  | some j=>rw [e1 _ j (h2 j rfl),k3 j _ (h2 j rfl)]
theorem slc_ok (m:Bool):SlR X (lowSl X.K m):=by
 intro pins s σ H x v vl vu lo hi sl Q I rx hs pl pu h
 obtain ⟨d,θ,μ,Qd,wk,rd,hw,f⟩:=h
 have go:∀ {ds:List D} {a:Addr} {xs:List V},x = .ref a→SqL X.K H a xs→Rps X.K H θ μ ds xs→newL m (cutD ds lo hi) μ Qd→_:=fun {ds a xs} ex hx r hn =>
  sl_list pins s σ H x v vl vu lo hi sl Q I rx hs pl pu ⟨a,xs,ex,hx,fun p hp=>newL_ok wk f (by
   have:cutD ds lo hi=(ds.drop (HT.sIx ds.length 0 lo)).take (HT.sIx ds.length ds.length hi - HT.sIx ds.length 0 lo):=by unfold cutD; rw [sIxD_eq,sIxD_eq]
   rw [this,r.length]
   exact (r.drop _).take _) hn hp⟩
 cases d with
 | lst ds=>obtain ⟨a,xs,rfl,h1,_,r⟩:=inv_lst rd; exact go rfl (.of h1) r hw
 | str z =>
  obtain ⟨rfl,hz⟩:=inv_str rd
  obtain ⟨t,rfl⟩:=rx
  obtain ⟨⟨h1,h2,h3⟩,hq⟩:=hw
  obtain ⟨l,rfl,el⟩:=part_of pl
  obtain ⟨u,rfl,eu⟩:=part_of pu
  have hb:sIxD z.length z.length hi≤z.length:=by
   cases hi with
   | none=>exact Nat.le_refl _
   | some j=>unfold sIxD; simp only [show ¬ j < 0 by have:=h2 j rfl; omega,if_false]; omega
  have hpk:slicePicked ⟨z.toArray⟩ l u none=Builtin.Str.strSliceIndices (some ((sIxD z.length 0 lo:Nat):Int)) (some ((sIxD z.length z.length hi:Nat):Int)) 1 z.length:=by
   unfold slicePicked
   rw [el,eu]
   have:=str_picks (z:=z) h1 h2
   simpa [Str.length] using this
  have hpf:(slicePicked ⟨z.toArray⟩ l u none).filterMap ((⟨z.toArray⟩:Str).cps[·]?)=cutD z lo hi:=by
   rw [hpk]
   have:=StrLaws.sliced_plain ⟨z.toArray⟩ h3 (by simpa [Str.length] using hb)
   simpa [Str.length,cutD] using this
  refine ⟨"str",_,PyProof.Rows.slot_str_getitem.lookup,typeIs_str s _ t,wpAny_getItem_str_slice (l:=l) (u:=u) (st:=none) (by obtain ⟨o,a,b,c⟩:=hs; exact ⟨o,a,b,c⟩) rfl ?_⟩
  have hcl:(cutD z lo hi).length≤sizeLine:=by
   have:(cutD z lo hi).length≤z.length:=by unfold cutD; simp; omega
   omega
  unfold sliceMade
  split
  ·rename_i hw
   have:cutD z lo hi=z:=by
    have hlen:(slicePicked ⟨z.toArray⟩ l u none).length=z.length:=by simpa [Str.length] using hw
    rw [hpk,StrLaws.strSliceIndices_plain h3 hb] at hlen
    simp at hlen
    unfold cutD
    rw [show sIxD z.length 0 lo=0 by omega,show sIxD z.length z.length hi=z.length by omega]
    simp
   rw [this] at hq
   exact ⟨.str _,H,I,⟨t,rfl⟩,f.at wk (rp_str hz) hq⟩
  ·rw [hpf]
   exact ⟨by simpa [Str.length] using hcl,.str _,H,I.tok _,⟨_,rfl⟩,f.at wk (rp_str hcl) hq⟩
 | tup ds =>
  obtain ⟨a,xs,rfl,h1,_,r⟩:=inv_tup rd
  have hl:=r.length
  have hq:Qd (.tup (cutD ds lo hi)) μ:=hw
  by_cases hn:sIxD ds.length 0 lo=0∧sIxD ds.length ds.length hi=ds.length
  ·cases rx
   obtain ⟨its,ri,ht,hz⟩:=I.tuple (SqT.of h1)
   have hlen:its.toArray.size=ds.length:=by rw [List.size_toArray,← ri.length,hl]
   have ec:cutD ds lo hi=ds:=by
    unfold cutD
    rw [hn.1,hn.2]
    simp
   rw [ec] at hq
   exact ⟨"tuple",_,PyProof.Rows.slot_tuple_getitem.lookup,ht.typeIs,tup_whole ht hs pl pu (by rw [hlen,← sIxD_eq]; exact hn.1) (by rw [hlen,← sIxD_eq]; exact hn.2) ⟨.ref a,H,I,rfl,f.at wk rd hq⟩⟩
  refine sl_tup pins s σ H _ v vl vu lo hi sl Q I rx hs pl pu ⟨a,xs,rfl,.of h1,?_,fun p hp=>?_⟩
  ·rw [sIxD_eq,sIxD_eq,hl] at hn; exact hn
  ·refine new_tup wk f ?_ hq hp
   have:cutD ds lo hi=(ds.drop (HT.sIx ds.length 0 lo)).take (HT.sIx ds.length ds.length hi - HT.sIx ds.length 0 lo):=by unfold cutD; rw [sIxD_eq,sIxD_eq]
   rw [this,hl]
   exact (r.drop _).take _
 | loc n =>
  obtain ⟨a,rfl,h1⟩:=inv_loc rd
  simp only [wSlc] at hw
  split at hw
  ·rename_i ds hn
   obtain ⟨xs,h2,r⟩:=wk.list hn h1
   exact go rfl (.of h2) r hw
  ·exact hw.elim
 | _=>exact hw.elim
theorem setIx_ok:PSet X (fun o i v H Q=>∃ x y z θ μ k,WOk X.K H θ μ∧Rp X.K H θ μ x o∧Rp X.K H θ μ y i∧Rp X.K H θ μ z v∧wSetIx x y z μ k∧∀ H' μ',WOk X.K H' θ μ'→Grow H θ μ H' θ μ'→k μ'→Q H'):=by
 intro pins s σ H o i v ov iv u Q I ro ri rv h
 obtain ⟨x,y,z,θ,μ,k,wk,rx,ry,rz,hw,f⟩:=h
 unfold wSetIx at hw
 split at hw
 ·rename_i n j
  obtain ⟨a,rfl,ha⟩:=inv_loc rx
  cases inv_int ry
  split at hw
  ·rename_i xs hn
   split at hw
   ·rename_i p hp
    obtain ⟨vs,h2,r⟩:=wk.list hn ha
    have g:Grow H θ μ (upd H a (.lst (vs.set p v))) θ (μ.set n (.lst (xs.set p z))):=Grow.write hn ha (by simp) (by simp)
    refine set_list pins s σ H _ _ v ov iv u Q I ro ri rv ⟨a,vs,j,p,rfl,rfl,h2,by rw [← ixD_eq,← r.length]; exact hp,?_⟩
    exact f _ _ (wk.write (c':=.lst (xs.set p z)) hn ha (by simp) (by simp) (show CellOk X.K _ _ _ a (.lst (xs.set p z)) from ⟨_,upd_same,(g.reps r).set (g.rep rz) p⟩)) g hw
   ·exact hw.elim
  ·exact hw.elim
 ·exact hw.elim
theorem wMeth_inv {m:String} {x:V} {d:D} {ds:List D} {H:Hp} {θ:List Addr} {μ:Mem} {Qd:QD} (wk:WOk X.K H θ μ) (rd:Rp X.K H θ μ d x) (hw:wMeth m d ds μ Qd) :
  ∃ n a xs ys,d = .loc n∧x = .ref a∧θ[n]? = some a∧μ[n]? = some (.lst xs)∧H a=some (.lst ys)∧Rps X.K H θ μ xs ys∧wMethL m n xs ds μ Qd:=by
 cases d with
 | loc n =>
  obtain ⟨a,rfl,ha⟩:=inv_loc rd
  simp only [wMeth] at hw
  split at hw
  ·rename_i xs hn
   obtain ⟨ys,h2,r⟩:=wk.list hn ha
   exact ⟨n,a,xs,ys,rfl,rfl,ha,hn,h2,r,hw⟩
  ·exact hw.elim
 | _=>exact hw.elim
theorem fin_set {H:Hp} {θ:List Addr} {μ:Mem} {Qd:QD} {Q:VK} {n:Nat} {a:Addr} {xs xs':List D} {ys':List V} {e:D} {v:V} (wk:WOk X.K H θ μ) (f:Fin X.K H θ μ Qd Q) (ha:θ[n]? = some a) (hn:μ[n]? = some (.lst xs)) (r:Rps X.K H θ μ xs' ys')
  (re:Rp X.K H θ μ e v) (h:Qd e (μ.set n (.lst xs'))):Q v (upd H a (.lst ys')):=by
 have g:Grow H θ μ (upd H a (.lst ys')) θ (μ.set n (.lst xs')):=Grow.write hn ha (by simp) (by simp)
 exact f e v _ _ _ (wk.write (c':=.lst xs') hn ha (by simp) (by simp) (show CellOk X.K _ _ _ a (.lst xs') from ⟨_,upd_same,g.reps r⟩)) g (g.rep re) h
theorem meth_append:MtR X "list.append" (lowM X.K (wMeth "append")):=by
 intro pins s σ H x vs v us Q I rx rv h
 obtain ⟨d,ds,θ,μ,Qd,wk,rd,rs,hw,f⟩:=h
 obtain ⟨n,a,xs,ys,rfl,rfl,ha,hn,h2,r,hw⟩:=wMeth_inv wk rd hw
 match ds,hw with
 | [e],hw =>
  obtain ⟨w',vr,rfl,r1,r2⟩:=rs.cons_inv
  cases r2.nil_inv
  have hw:xs.length < lim∧Qd .non (μ.set n (.lst (xs ++ [e]))):=hw
  exact mt_append pins s σ H _ _ v us Q I rx rv ⟨a,ys,w',rfl,rfl,h2,by rw [← r.length,← lim_eq]; exact hw.1,fin_set wk f ha hn (r.append (Reps.one r1)) rp_non hw.2⟩
 | [],hw=>simp [wMethL] at hw
 | e1 :: e2 :: er,hw=>cases e1 <;> cases er <;> simp [wMethL] at hw
theorem wl_inv {H:Hp} {θ:List Addr} {μ:Mem} {d:D} {v:V} {ds:List D} (wk:WOk X.K H θ μ) (r:Rp X.K H θ μ d v) (h:wlOf μ d=some ds):∃ a xs,v = .ref a∧H a=some (.lst xs)∧Rps X.K H θ μ ds xs:=by
 cases d with
 | lst l=>simp only [wlOf,Option.some.injEq] at h; subst h; obtain ⟨b,zs,e1,e2,_,e3⟩:=inv_lst r; exact ⟨b,zs,e1,e2,e3⟩
 | loc k =>
  obtain ⟨b,rfl,hb⟩:=inv_loc r
  simp only [wlOf] at h
  split at h
  ·rename_i l hl
   cases h
   obtain ⟨zs,e1,e2⟩:=wk.list hl hb
   exact ⟨b,zs,rfl,e1,e2⟩
  ·cases h
 | _=>simp [wlOf] at h
theorem cat_ok (m:Bool):OpR X (binaryOp .Add) (low2 X.K (wCat m)):=by
 intro pins s σ H x y v u Q I rx ry h
 obtain ⟨d,e,θ,μ,Qd,wk,rd,re,hw,f⟩:=h
 unfold wCat at hw
 split at hw
 ·rename_i as ha
  split at hw
  ·rename_i bs hb
   obtain ⟨a,xs,rfl,h1,r1⟩:=wl_inv wk rd ha
   obtain ⟨b,ys,rfl,h2,r2⟩:=wl_inv wk re hb
   have l1:=r1.length
   have l2:=r2.length
   exact op_cat pins s σ H _ _ v u Q I rx ry ⟨a,b,xs,ys,rfl,rfl,h1,h2,by rw [← l1,← l2,← lim_eq]; exact hw.1,fun p hp=>newL_ok wk f (r1.append r2) hw.2 hp⟩
  ·exact hw.elim
 ·exact hw.elim
end
end DW
end
section
set_option autoImplicit false
namespace DW
open PySem PySem.Spec PyProof.Rows L2
section
variable {X:Cx}
theorem lstOf_sq {K:PySem.W.Frag} {H:Hp} {θ:List Addr} {μ:Mem} {ds:List D} {d:D} {v:V} (wk:WOk K H θ μ) (r:Rp K H θ μ d v) (h:lstOf μ d=some ds):∃ a xs,v = .ref a∧SqL K H a xs∧Rps K H θ μ ds xs:=by
 cases d with
 | lst es=>simp only [lstOf,seqOf,Option.some.injEq] at h; subst h; obtain ⟨a,xs,e,h1,_,h3⟩:=inv_lst r; exact ⟨a,xs,e,.of h1,h3⟩
 | ro es=>simp only [lstOf,seqOf,Option.some.injEq] at h; subst h; obtain ⟨a,xs,e,h1,h3⟩:=inv_ro r; exact ⟨a,xs,e,SqL_ro h1,h3⟩
 | loc n =>
  obtain ⟨a,e,h1⟩:=inv_loc r
  simp only [lstOf,seqOf] at h
  split at h
  ·rename_i es hn
   simp only [Option.some.injEq] at h; subst h
   obtain ⟨xs,h2,h3⟩:=wk.list hn h1
   exact ⟨a,xs,e,.of h2,h3⟩
  ·cases h
 | _=>simp [lstOf,seqOf] at h
theorem ints_V {K:PySem.W.Frag} {H:Hp} {θ:List Addr} {μ:Mem}:∀ {ds:List D} {xs:List V} {ns:List Int},Rps K H θ μ ds xs→intsD ds=some ns→xs=ns.map V.int
 | [],xs,ns,r,h=>by
  cases r.nil_inv
  simp only [intsD,Option.some.injEq] at h
  subst h; rfl
 | d :: ds,xs,ns,r,h=>by
  obtain ⟨v,vr,rfl,h1,h2⟩:=r.cons_inv
  cases d with
  | int i =>
   simp only [intsD] at h
   cases q:intsD ds with
   | none=>rw [q] at h; cases h
   | some ms =>
    rw [q] at h
    simp only [Option.map_some,Option.some.injEq] at h
    subst h
    cases inv_int h1
    rw [ints_V h2 q]; rfl
  | _=>simp [intsD] at h
theorem bools_V {K:PySem.W.Frag} {H:Hp} {θ:List Addr} {μ:Mem}:∀ {ds:List D} {xs:List V} {b:Bool},Rps K H θ μ ds xs→allB ds=some b→∃ bs:List Bool,xs=bs.map V.bl∧bs.all id=b
 | [],xs,b,r,h=>by
  cases r.nil_inv
  simp only [allB,Option.some.injEq] at h
  subst h; exact ⟨[],rfl,rfl⟩
 | d :: ds,xs,b,r,h=>by
  obtain ⟨v,vr,rfl,h1,h2⟩:=r.cons_inv
  cases d with
  | bl c =>
   simp only [allB] at h
   cases q:allB ds with
   | none=>rw [q] at h; cases h
   | some ms =>
    rw [q] at h
    simp only [Option.map_some,Option.some.injEq] at h
    subst h
    cases inv_bl h1
    obtain ⟨bs,rfl,e⟩:=bools_V h2 q
    exact ⟨c :: bs,rfl,by simp [← e]⟩
  | _=>simp [allB] at h
theorem kept_iter {h h':Heap} {o:Obj} (hk:∀ b ob,b ∉ [h.objs.size]→(h.push o).get? b=some ob→h'.get? b=some ob):∀ b ob,h.get? b=some ob→h'.get? b=some ob:=fun b ob e =>
 hk b ob (fun hm=>by
  have:=List.mem_singleton.mp hm
  subst this
  exact Nat.lt_irrefl _ (Heap.lt_size e)) (Heap.get?_push_of_some _ e)
theorem call_allL (hc:X.calm=true):CallR X (.builtin "all") (fun xs H Q=>∃ p,∃ bs:List Bool,xs=[.ref p]∧SqL X.K H p (bs.map V.bl)∧Q (.bl (bs.all id)) H):=by
 intro pins s σ H xs us Q I r h
 obtain ⟨p,bs,rfl,hx,q⟩:=h
 obtain ⟨u,rfl,rx⟩:=vals1 r
 cases rx
 obtain ⟨its,rv,pl,hz⟩:=I.list hx
 have hlt:p < s.heap.objs.size:=by obtain ⟨o,n,e,_⟩:=pl; exact Heap.lt_size e
 have hlen:bs.length=its.length:=by have:=rv.length; simpa using this
 have hit:∀ (i:Nat) (v:Value),its.toArray[i]? = some v→v = .bool (bs.getD i true):=fun i v e=>by
  have e':its[i]? = some v:=by simpa using e
  have hi:i < bs.length:=by rw [hlen]; exact (List.getElem?_eq_some_iff.mp e').1
  obtain ⟨w',h1,h2⟩:=rv.get (i:=i) (x:=.bl (bs.getD i true)) (by simp [hi])
  rw [e'] at h1; cases h1; exact h2
 refine call_all_walk (wpAny_pyIter_list pl.isList ?_)
 refine ⟨s.heap.objs.size,_,_,_,_,_,fun i=>bs.getD i true,rfl,Walks.list (A:=X.A.in1) (I.ok.hd hc) _ p (Nat.ne_of_lt hlt) its.toArray,⟨⟨_,Heap.get?_push_size _ rfl,rfl,rfl⟩,pl.isList.push _⟩,fun i v s' Q' E' hP hQ=>?_,fun h' tk hk=>?_⟩
 ·rw [hit i v hP]; exact wpAny_truthy_bool hQ
 ·refine ⟨.bl (bs.all id),H,I.kept (kept_iter hk),?_,q⟩
  show Value.bool _=Value.bool _
  congr 1
  rw [List.size_toArray,← hlen,Bool.eq_iff_iff,List.all_eq_true,List.all_eq_true]
  constructor
  ·intro hh x hx
   obtain ⟨i,hi,rfl⟩:=List.mem_iff_getElem.mp hx
   have:=hh i (by simpa using hi)
   simpa [hi] using this
  ·intro hh i hi
   have hi':i < bs.length:=by simpa using hi
   have:=hh bs[i] (List.getElem_mem hi')
   simpa [hi'] using this
theorem vals_intItems:∀ {ns:List Int} {its:List Value},Vals (ns.map V.int) its→∃ xs:Array (Int×Tok),its.toArray=intItems xs∧xs.toList.map (·.1)=ns
 | [],its,h=>by cases h; exact ⟨#[],by simp [intItems],rfl⟩
 | n :: ns,its,h=>by
  cases h with
  | cons r rr =>
   obtain ⟨t,rfl⟩:=r
   obtain ⟨xs,e1,e2⟩:=vals_intItems rr
   refine ⟨((n,t) :: xs.toList).toArray,?_,by simp [e2]⟩
   have e1':=congrArg Array.toList e1
   simp only [intItems,Array.toList_map] at e1'
   apply Array.toList_inj.mp
   simp only [intItems,Array.toList_map]
   simpa using e1'
theorem min_arg (xs:Array (Int×Tok)) (n:Int) (ns:List Int) (h:xs.toList.map (·.1)=n :: ns):numAt xs (argBest (fun i j=>decide (numAt xs i < numAt xs j)) (xs.size - 1))=ns.foldl min n:=by
 have key:∀ k,k < (n :: ns).length→numAt xs (argBest (fun i j=>decide (numAt xs i < numAt xs j)) k)=(ns.take k).foldl min n:=by
  intro k
  have at_:∀ i,numAt xs i=((n :: ns)[i]?).getD 0:=fun i=>by
   rw [← h]; simp [numAt]
  induction k with
  | zero=>intro _; simp [argBest,at_]
  | succ k ih =>
   intro hk
   have ih':=ih (by omega)
   have hk':k < ns.length:=by simpa using hk
   have e:ns.take (k + 1)=ns.take k ++ [ns[k]]:=by rw [List.take_succ_eq_append_getElem hk']
   rw [e,List.foldl_append]
   simp only [List.foldl_cons,List.foldl_nil]
   rw [← ih']
   simp only [argBest]
   have a1:numAt xs (k + 1)=ns[k]:=by rw [at_]; simp [hk']
   split
   ·rename_i hgt
    have hgt:=of_decide_eq_true hgt
    rw [a1] at hgt ⊢
    omega
   ·rename_i hgt
    have hgt:¬ (numAt xs (k + 1) < _):=fun z=>hgt (decide_eq_true z)
    rw [a1] at hgt
    omega
 have hs:xs.size=(n :: ns).length:=by rw [← h]; simp
 have:=key (xs.size - 1) (by rw [hs]; simp)
 rw [this,hs,List.take_of_length_le (by simp)]
theorem call_minL (hc:X.calm=true):CallR X (.builtin "min") (fun xs H Q=>∃ p,∃ n:Int,∃ ns:List Int,xs=[.ref p]∧SqL X.K H p ((n :: ns).map V.int)∧Q (.int (ns.foldl min n)) H):=by
 intro pins s σ H xs us Q I r h
 obtain ⟨p,n,ns,rfl,hx,q⟩:=h
 obtain ⟨u,rfl,rx⟩:=vals1 r
 cases rx
 obtain ⟨its,rv,pl,hz⟩:=I.list hx
 obtain ⟨zs,e1,e2⟩:=vals_intItems rv
 have hl:=pl.isList
 rw [e1] at hl
 have hs:zs.size=(n :: ns).length:=by rw [← e2]; simp
 refine min_intList (I.ok.hd hc) hl (by rw [hs]; simp) fun v h' tk hv hk=>?_
 obtain ⟨t,rfl⟩:=intItems_at hv
 exact ⟨.int _,H,I.kept hk,⟨t,by rw [min_arg zs n ns e2]⟩,q⟩
theorem max_arg (xs:Array (Int×Tok)) (n:Int) (ns:List Int) (h:xs.toList.map (·.1)=n :: ns):numAt xs (argBest (fun i j=>decide (numAt xs i > numAt xs j)) (xs.size - 1))=ns.foldl max n:=by
 have key:∀ k,k < (n :: ns).length→numAt xs (argBest (fun i j=>decide (numAt xs i > numAt xs j)) k)=(ns.take k).foldl max n:=by
  intro k
  have at_:∀ i,numAt xs i=((n :: ns)[i]?).getD 0:=fun i=>by
   rw [← h]; simp [numAt]
  induction k with
  | zero=>intro _; simp [argBest,at_]
  | succ k ih =>
   intro hk
   have ih':=ih (by omega)
   have hk':k < ns.length:=by simpa using hk
   have e:ns.take (k + 1)=ns.take k ++ [ns[k]]:=by rw [List.take_succ_eq_append_getElem hk']
   rw [e,List.foldl_append]
   simp only [List.foldl_cons,List.foldl_nil]
   rw [← ih']
   simp only [argBest]
   have a1:numAt xs (k + 1)=ns[k]:=by rw [at_]; simp [hk']
   split
   ·rename_i hgt
    have hgt:=of_decide_eq_true hgt
    rw [a1] at hgt ⊢
    omega
   ·rename_i hgt
    have hgt:¬ (numAt xs (k + 1) > _):=fun z=>hgt (decide_eq_true z)
    rw [a1] at hgt
    omega
 have hs:xs.size=(n :: ns).length:=by rw [← h]; simp
 have:=key (xs.size - 1) (by rw [hs]; simp)
 rw [this,hs,List.take_of_length_le (by simp)]
theorem call_maxL (hc:X.calm=true):CallR X (.builtin "max") (fun xs H Q=>∃ p,∃ n:Int,∃ ns:List Int,xs=[.ref p]∧SqL X.K H p ((n :: ns).map V.int)∧Q (.int (ns.foldl max n)) H):=by
 intro pins s σ H xs us Q I r h
 obtain ⟨p,n,ns,rfl,hx,q⟩:=h
 obtain ⟨u,rfl,rx⟩:=vals1 r
 cases rx
 obtain ⟨its,rv,pl,hz⟩:=I.list hx
 obtain ⟨zs,e1,e2⟩:=vals_intItems rv
 have hl:=pl.isList
 rw [e1] at hl
 have hs:zs.size=(n :: ns).length:=by rw [← e2]; simp
 refine max_intList (I.ok.hd hc) hl (by rw [hs]; simp) fun v h' tk hv hk=>?_
 obtain ⟨t,rfl⟩:=intItems_at hv
 exact ⟨.int _,H,I.kept hk,⟨t,by rw [max_arg zs n ns e2]⟩,q⟩
end
end DW
end
section
set_option autoImplicit false
namespace DW
open PySem PySem.Spec PyProof.Rows L2
section
variable {X:Cx}
end
end DW
end
section
set_option autoImplicit false
namespace DW
open PySem PySem.W PyProof.Rows
noncomputable abbrev at' (p:Array Nat) (k:Nat):Nat:=p.getD k 0
theorem at_eq (p:Array Nat) (k:Nat):at' p k=p[k]?.getD 0:=by simp [at']
section
variable {lt:Nat→Nat→Bool} (hA:∀ a b,lt a b=true→lt b a=false) (hT:∀ a b c,lt b a=false→lt c b=false→lt c a=false)
noncomputable def Tie (lt:Nat→Nat→Bool) (a b:Nat):Prop:=lt a b=false∧lt b a=false
include hT in
theorem Tie.trans {a b c:Nat} (h:Tie lt a b) (k:Tie lt b c):Tie lt a c:=⟨hT c b a k.1 h.1,hT a b c h.2 k.2⟩
theorem Tie.symm {a b:Nat} (h:Tie lt a b):Tie lt b a:=⟨h.2,h.1⟩
end
noncomputable def Asks {α:Type} (n:Nat) (R:α→Prop):KasT α→Prop
 | .ret a=>R a
 | .ask i j k=>i < n∧j < n∧∀ b,Asks n R (k b)
theorem Asks.bind {α β:Type} {n:Nat} {R:α→Prop} {R':β→Prop} {f:α→KasT β}:∀ {t:KasT α},Asks n R t→(∀ a,R a→Asks n R' (f a))→Asks n R' (t.bind f)
 | .ret a,h,k=>k a h
 | .ask i j t,h,k=>⟨h.1,h.2.1,fun b=>Asks.bind (h.2.2 b) k⟩
noncomputable def Bel (n:Nat) (p:Array Nat):Prop:=0 < n∧∀ x∈p,x < n
theorem Bel.at {n:Nat} {p:Array Nat} (h:Bel n p) (k:Nat):at' p k < n:=by
 rw [at_eq]
 cases e:p[k]? with
 | none=>exact h.1
 | some x=>exact h.2 x (Array.mem_of_getElem? e)
end DW
end
section
set_option autoImplicit false
set_option maxHeartbeats 4000000
namespace DW
open PySem PySem.W PySem.Calls PyProof.Rows
section
variable {prog:Program} {w:World} {A:Around} {E:Value→Shared→Prop} {s:Shared} {vs:List Value} {lt:Nat→Nat→Bool}
end
end DW
end
section
set_option autoImplicit false
set_option maxHeartbeats 4000000
namespace DW
open PySem PySem.W PySem.Calls PyProof.Rows
noncomputable def IsItem (h:Heap) (v:Value) (x:Itm):Prop:=∃ (a:Addr) (o:Obj) (t u:Tok) (n:Nat),v = .ref a∧h.get? a=some o∧o.cls = .type "tuple"∧o.data = .seq #[.int x.1 t,.str ⟨x.2.toArray⟩ u] n
section
variable {prog:Program} {w:World} {A:Around} {E:Value→Shared→Prop}
end
end DW
end
section
set_option autoImplicit false
namespace DW
theorem ltCs_asym:∀ x y:List Nat,ltCs x y=true→ltCs y x=false
 | [],[],h=>by simp [ltCs] at h
 | [],_ :: _,_=>rfl
 | _ :: _,[],h=>by simp [ltCs] at h
 | a :: x,b :: y,h=>by
  unfold ltCs at h ⊢
  by_cases e:a=b
  ·rw [if_pos e] at h
   rw [if_pos e.symm]
   exact ltCs_asym x y h
  ·rw [if_neg e] at h
   rw [if_neg (fun z=>e z.symm)]
   simp at h ⊢; omega
theorem ltCs_trans:∀ x y z:List Nat,ltCs y x=false→ltCs z y=false→ltCs z x=false
 | x,y,[],h,k=>by
  cases x with
  | nil=>rfl
  | cons a x =>
   cases y with
   | nil=>simp [ltCs] at h
   | cons b y=>simp [ltCs] at k
 | [],y,c :: z,h,k=>by simp [ltCs]
 | a :: x,[],c :: z,h,k=>by simp [ltCs] at h
 | a :: x,b :: y,c :: z,h,k=>by
  unfold ltCs at h k ⊢
  by_cases e:b=a
  ·by_cases f:c=b
   ·rw [if_pos e] at h; rw [if_pos f] at k; rw [if_pos (f.trans e)]
    exact ltCs_trans x y z h k
   ·rw [if_neg f] at k; subst e; rw [if_neg f]; exact k
  ·rw [if_neg e] at h
   by_cases f:c=b
   ·subst f; rw [if_neg e]; exact h
   ·rw [if_neg f] at k
    simp at h k
    rw [if_neg (by omega)]
    simp; omega
theorem lt2_asym (x y:Itm) (h:lt2 x y=true):lt2 y x=false:=by
 unfold lt2 at h ⊢
 by_cases e:x.1=y.1
 ·rw [if_pos e] at h; rw [if_pos e.symm]; exact ltCs_asym _ _ h
 ·rw [if_neg e] at h; rw [if_neg (fun z=>e z.symm)]; simp at h ⊢; omega
theorem lt2_trans (x y z:Itm) (h:lt2 y x=false) (k:lt2 z y=false):lt2 z x=false:=by
 unfold lt2 at h k ⊢
 by_cases e:y.1=x.1
 ·by_cases f:z.1=y.1
  ·rw [if_pos e] at h; rw [if_pos f] at k; rw [if_pos (f.trans e)]; exact ltCs_trans _ _ _ h k
  ·rw [if_neg f] at k; rw [← e,if_neg f]; exact k
 ·rw [if_neg e] at h
  by_cases f:z.1=y.1
  ·rw [f,if_neg e]; exact h
  ·rw [if_neg f] at k
   simp at h k
   rw [if_neg (by omega)]; simp; omega
end DW
end
section
set_option autoImplicit false
namespace DW
open PySem PySem.W PyProof.Rows
end DW
namespace DW
open PySem PySem.W PySem.Calls PyProof.Rows
section
variable {prog:Program} {w:World} {A:Around} {E:Value→Shared→Prop}
end
end DW
end
section
set_option autoImplicit false
namespace DW
open PySem PySem.Spec PyProof.Rows L2
section
variable {prog:Program} {w:World} {A:Around} {E:Value→Shared→Prop} {s:Shared} {d it:Addr} {od:Obj} {es:Array DictEntry} {ep i:Nat}
theorem dit_new {Q:Value→Shared→Prop} (hs:(d == sysModules)=false) (ho:s.heap.get? d=some od) (hc:od.ExactDict) (hd:od.data = .dict es ep)
  (hQ:Q (.ref s.heap.objs.size) { s with heap:=s.heap.push { cls:=.type "dict_keyiterator",data:=.fields #[.ref d,.int 0 0,.int es.size 0,.int ep 0] } }):wpAny (model prog w) A (pyIter (.ref d)) Q E s:=by
 have T0:s.TypeIs (.ref d) "dict":=⟨od,ho,hc.1⟩
 refine wpAny_pyIter_slot T0 PySem.F.slot_dict_iter (wpAny_call_entry PySem.F.slot_dict_iter T0 PySem.F.entry_dict_iter ?_ (PySem.F.args_dict_iter_1 _))
 unfold Builtin.«dict.__iter__»; refine wpAny_bind ?_; unfold Builtin.Dict.dictSlotNone
 refine wpAny_bind (wpAny_notOrdered_dict T0 ?_); show wpAny _ _ (pure (Value.ref d)) _ _ s; refine wpAny_pure ?_
 show wpAny _ _ (Builtin.Dict.showsAll d >>= _) _ _ s; unfold Builtin.Dict.showsAll
 rw [if_neg (by rw [hs]; exact Bool.false_ne_true)]; refine wpAny_bind (wpAny_pure (wpAny_bind (wpAny_dictEntries ho hd (wpAny_bind (wpAny_dictEpoch ho hd ?_)))))
 refine wpAny_bind (wpAny_newObj_type (wpAny_pure ⟨_,rfl,"dict_keyiterator",_,⟨_,Heap.get?_push_size _ rfl,rfl⟩,PySem.F.slot_dict_keyiterator_next.lookup,?_⟩)); simpa [rawInt] using hQ
theorem dit_item {Q:Option Value→Shared→Prop} (hit:s.heap.IsKeyIter it d i es.size ep) (hod:s.heap.get? d=some od) (hdd:od.data = .dict es ep) (hlt:i < es.size)
  (hQ:∀ h',h'.IsKeyIter it d (i + 1) es.size ep→Heap.SameBut it s.heap h'→Q (some es[i].key) { s with heap:=h' }):wpAny (model prog w) A (pyNext (.ref it)) Q E s:=by
 obtain ⟨o,ho,hc,hd⟩:=id hit
 unfold pyNext
 refine wpAny_bind (wpAny_attempt (wpAny_callSpecial?_slot (name:=Str.ofString "__next__") hit.typeIs PySem.F.slot_dict_keyiterator_next (wpAny_call_entry PySem.F.slot_dict_keyiterator_next hit.typeIs PySem.F.entry_dict_keyiterator_next ?_ (PySem.F.args_dict_keyiterator_next_1 _))))
 refine wpAny_bind (wpAny_pure (wpAny_bind (wpAny_bind ?_)))
 (first | refine wpAny_bind (wpAny_typeNameOfWhole_keyiter hit.typeIs (wpAny_pure ?_)) | refine wpAny_bind (wpAny_typeNameOf_keyiter hit.typeIs (wpAny_pure ?_))); refine wpAny_bind (wpAny_fieldsOf ho hd ?_)
 have own:Builtin.Dict_items.ownsTuple "dict_keyiterator" = false:=by decide
 simp only [own,Bool.false_eq_true,if_false]; show wpAny _ _ (if (Value.ref d == Value.none)=true then _ else _) _ _ s
 rw [if_neg (show ¬ ((Value.ref d == Value.none)=true) from Bool.false_ne_true)]; refine wpAny_bind (wpAny_pure (wpAny_bind (wpAny_dictEntries hod hdd ?_)))
 rw [if_neg (by simp)]; refine wpAny_bind (wpAny_pure (wpAny_bind (wpAny_dictEpoch hod hdd ?_))); rw [if_neg (by simp)]; refine wpAny_pure ?_
 simp only [show ¬ ((i:Int) < 0) from by omega,if_false,Int.toNat_natCast,Array.getElem?_eq_getElem hlt]; refine wpAny_bind ?_
 (first | refine wpAny_bind (wpAny_typeNameOfWhole_keyiter hit.typeIs (wpAny_pure ?_)) | refine wpAny_bind (wpAny_typeNameOf_keyiter hit.typeIs (wpAny_pure ?_))); refine wpAny_bind (wpAny_isOneOf_keyiter hit.typeIs ?_)
 show wpAny _ _ (setField (.ref it) 1 (rawInt ((i:Int) + 1)) >>= _) _ _ s; refine wpAny_bind (wpAny_setField ho hd (by simp) ?_)
 have nx:(s.heap.update it (Obj.mapFields (·.setIfInBounds 1 (rawInt ((i:Int) + 1))))).IsKeyIter it d (i + 1) es.size ep:=⟨_,Heap.get?_update_self _ ho (Obj.isFreed_of_fields (Obj.data_mapFields hd _)),(Obj.cls_mapFields ..).trans hc,by rw [Obj.data_mapFields hd]; simp [rawInt]⟩
 refine wpAny_bind (wpAny_holding (wpAny_bind (wpAny_isOneOf_keyiter (s:={ s with heap:=s.heap.update it (Obj.mapFields (·.setIfInBounds 1 (rawInt ((i:Int) + 1)))) }) nx.typeIs ?_)))
 show wpAny _ _ (pure es[i].key) _ _ _; exact wpAny_pure (wpAny_pure ⟨_,rfl,wpAny_pure (hQ _ nx (Heap.SameBut.update ..))⟩)
theorem dit_end {Q:Option Value→Shared→Prop} (hh:A.handled=none) (hit:s.heap.IsKeyIter it d i es.size ep) (hod:s.heap.get? d=some od) (hdd:od.data = .dict es ep) (hge:es.size≤i)
  (hQ:∀ h',Heap.ExtBut it s.heap h'→Q none { s with heap:=h' }):wpAny (model prog w) A (pyNext (.ref it)) Q E s:=by
 obtain ⟨o,ho,hc,hd⟩:=id hit
 unfold pyNext
 refine wpAny_bind (wpAny_attempt (wpAny_callSpecial?_slot (name:=Str.ofString "__next__") hit.typeIs PySem.F.slot_dict_keyiterator_next (wpAny_call_entry PySem.F.slot_dict_keyiterator_next hit.typeIs PySem.F.entry_dict_keyiterator_next ?_ (PySem.F.args_dict_keyiterator_next_1 _))))
 refine wpAny_bind (wpAny_pure (wpAny_bind (wpAny_bind ?_)))
 (first | refine wpAny_bind (wpAny_typeNameOfWhole_keyiter hit.typeIs (wpAny_pure ?_)) | refine wpAny_bind (wpAny_typeNameOf_keyiter hit.typeIs (wpAny_pure ?_))); refine wpAny_bind (wpAny_fieldsOf ho hd ?_)
 have own:Builtin.Dict_items.ownsTuple "dict_keyiterator" = false:=by decide
 simp only [own,Bool.false_eq_true,if_false]; show wpAny _ _ (if (Value.ref d == Value.none)=true then _ else _) _ _ s
 rw [if_neg (show ¬ ((Value.ref d == Value.none)=true) from Bool.false_ne_true)]; refine wpAny_bind (wpAny_pure (wpAny_bind (wpAny_dictEntries hod hdd ?_)))
 rw [if_neg (by simp)]; refine wpAny_bind (wpAny_pure (wpAny_bind (wpAny_dictEpoch hod hdd ?_))); rw [if_neg (by simp)]; refine wpAny_pure ?_
 simp only [show ¬ ((i:Int) < 0) from by omega,if_false,Int.toNat_natCast,Array.getElem?_eq_none hge]; refine wpAny_bind ?_
 (first | refine wpAny_bind (wpAny_typeNameOfWhole_keyiter hit.typeIs (wpAny_pure ?_)) | refine wpAny_bind (wpAny_typeNameOf_keyiter hit.typeIs (wpAny_pure ?_))); show wpAny _ _ (setField (.ref it) 0 .none >>= _) _ _ s
 refine wpAny_bind (wpAny_setField ho hd (by simp) ?_); show wpAny _ _ (newExc (.type "StopIteration") [] >>= _) _ _ _; refine wpAny_bind ?_
 simp only [newExc,newTuple]; refine wpAny_bind (wpAny_newObj_type ?_ (by size_fits)); refine wpAny_bind (m:=firstArgMember _ _) (wpAny_of_eq (a:=Value.none) (by first | rfl | (simp only [firstArgMember]; rfl)) ?_)
 refine wpAny_newObj_type ?_ (by size_fits); simp only [raiseNew]; refine wpAny_bind (wpAny_handled ?_); rw [show A.in1.handled=none from hh]
 refine wpAny_bind (wpAny_pure (wpAny_throw ?_)); refine wpAny_bind (wpAny_isInstance (T:="StopIteration") (b:=true) ⟨_,Heap.get?_push_size _ rfl,rfl⟩ isSubtype_stop ?_)
 exact wpAny_pure (hQ _ (((Heap.SameBut.update ..).extBut.push _).push _))
end
end DW
end
section
set_option autoImplicit false
set_option maxHeartbeats 4000000
namespace DW
open PySem PySem.W PySem.Calls PyProof.Rows
section
variable {prog:Program} {w:World} {A:Around} {E:Value→Shared→Prop} {s:Shared} {d:Addr} {od:Obj} {es:Array DictEntry} {ep:Nat}
end
section
variable {prog:Program} {w:World} {A:Around} {E:Value→Shared→Prop}
end
end DW
end
section
set_option autoImplicit false
namespace DW
open PySem PySem.Spec PyProof.Rows L2
section
variable {X:Cx}
theorem one_of {K:PySem.W.Frag} {b:String} {vs:List V} {H:Hp} {Q:VK} (h:lowA K (wBlt b) vs H Q) (hb:b≠"min3":=by decide):(∃ d v θ μ Qd,vs=[v]∧WOk K H θ μ∧Rp K H θ μ d v∧wBlt b [d] μ Qd∧Fin K H θ μ Qd Q)∨∃ d e v w θ μ Qd,vs=[v,w]∧WOk K H θ μ∧Rp K H θ μ d v∧Rp K H θ μ e w∧wBlt b [d,e] μ Qd∧Fin K H θ μ Qd Q:=by
 obtain ⟨ds,θ,μ,Qd,wk,rs,hw,f⟩:=h
 match ds,hw with
 | [],hw=>exact hw.elim
 | [d],hw =>
  obtain ⟨v,r,rfl,r1,r2⟩:=rs.cons_inv
  cases r2.nil_inv
  exact .inl ⟨d,v,θ,μ,Qd,rfl,wk,r1,hw,f⟩
 | [d,e],hw =>
  obtain ⟨v,r,rfl,r1,r2⟩:=rs.cons_inv
  obtain ⟨w,r,rfl,r3,r4⟩:=r2.cons_inv
  cases r4.nil_inv
  exact .inr ⟨d,e,v,w,θ,μ,Qd,rfl,wk,r1,r3,hw,f⟩
 | [d,e,g],hw=>exact (wB3_no hb hw).elim
 | _ :: _ :: _ :: _ :: _,hw=>exact hw.elim
theorem blt_len : CallR X (.builtin "len") (lowA X.K (wBlt "len")) := by
  intro pins s σ H xs us Q I r h
  rcases one_of h with ⟨d, v, θ, μ, Qd, rfl, wk, rd, hw, f⟩ | ⟨d, e, v, w, θ, μ, Qd, rfl, wk, rd, re, hw, f⟩
  · simp only [wBlt] at hw
    split at hw
    · rename_i n hn
      refine call_len pins s σ H _ us Q I r ⟨v, n, rfl, ?_, f.at wk rp_int hw⟩
      have seq : ∀ {ds : List D}, seqOf μ d = some ds → n = ds.length → LenV X.K v H n := fun {ds} hq hl => by
        obtain ⟨a, xs, rfl, hx, r'⟩ := seqOf_sq wk rd hq
        rcases hx with hx | hx
        · exact .inl ⟨xs, hx, hl.trans r'.length⟩
        · exact .inr ⟨xs, hx, hl.trans r'.length⟩
      cases d with
      | str x =>
        obtain ⟨rfl, hx⟩ := inv_str rd
        simp only [lenOf, Option.some.injEq] at hn
        exact ⟨by simpa [Str.length] using hx, by rw [← hn]; simp [Str.length]⟩
      | _ =>
        simp only [lenOf] at hn
        first
          | (simp [seqOf] at hn; done)
          | (cases q : seqOf μ _ with
             | none => rw [q] at hn; cases hn
             | some ds => rw [q] at hn; simp only [Option.map_some, Option.some.injEq] at hn; exact seq q hn.symm)
    · obtain ⟨a, kvs, rfl, e, q⟩ := len_dict wk rd hw
      obtain ⟨u, rfl, ru⟩ := r.one
      cases (show u = Value.ref a from ru)
      exact d_len I (.inl e) fun t s' I' => ⟨.int kvs.length, H, I', ⟨t, rfl⟩, f.at wk rp_int q⟩
  · simp [wBlt] at hw
theorem blt_abs:CallR X (.builtin "abs") (lowA X.K (wBlt "abs")):=by
 intro pins s σ H xs us Q I r h
 rcases one_of h with ⟨d,v,θ,μ,Qd,rfl,wk,rd,hw,f⟩ | ⟨d,e,v,w,θ,μ,Qd,rfl,wk,rd,re,hw,f⟩
 ·cases d with
  | int i=>cases inv_int rd; exact call_abs pins s σ H _ us Q I r ⟨i,rfl,f.at wk rp_int hw⟩
  | _=>simp [wBlt] at hw
 ·simp [wBlt] at hw
theorem blt_all (hc:X.calm=true):CallR X (.builtin "all") (lowA X.K (wBlt "all")):=by
 intro pins s σ H xs us Q I r h
 rcases one_of h with ⟨d,v,θ,μ,Qd,rfl,wk,rd,hw,f⟩ | ⟨d,e,v,w,θ,μ,Qd,rfl,wk,rd,re,hw,f⟩
 ·simp only [wBlt] at hw
  split at hw
  ·rename_i b hb
   cases q:lstOf μ d with
   | none=>rw [q] at hb; cases hb
   | some ds =>
    rw [q] at hb
    obtain ⟨a,ys,rfl,hx,rs⟩:=lstOf_sq wk rd q
    obtain ⟨bs,rfl,eb⟩:=bools_V rs hb
    exact call_allL hc pins s σ H _ us Q I r ⟨a,bs,rfl,hx,f.at wk rp_bl (by rw [eb]; exact hw)⟩
  ·exact hw.elim
 ·simp [wBlt] at hw
theorem blt_max (hc:X.calm=true):CallR X (.builtin "max") (lowA X.K (wBlt "max")):=by
 intro pins s σ H xs us Q I r h
 rcases one_of h with ⟨d,v,θ,μ,Qd,rfl,wk,rd,hw,f⟩ | ⟨d,e,v,w,θ,μ,Qd,rfl,wk,rd,re,hw,f⟩
 ·simp only [wBlt] at hw
  split at hw
  ·rename_i n ns hb
   cases q:lstOf μ d with
   | none=>rw [q] at hb; cases hb
   | some ds =>
    rw [q] at hb
    obtain ⟨a,ys,rfl,hx,rs⟩:=lstOf_sq wk rd q
    cases ints_V rs hb
    exact call_maxL hc pins s σ H _ us Q I r ⟨a,n,ns,rfl,hx,f.at wk rp_int hw⟩
  ·exact hw.elim
 ·cases d with
  | int i =>
   cases e with
   | int j =>
    cases inv_int rd; cases inv_int re
    exact call_max2 hc pins s σ H _ us Q I r ⟨i,j,rfl,f.at wk rp_int hw⟩
   | _=>simp [wBlt] at hw
  | _=>simp [wBlt] at hw
theorem blt_min (hc:X.calm=true):CallR X (.builtin "min") (lowA X.K (wBlt "min")):=by
 intro pins s σ H xs us Q I r h
 rcases one_of h with ⟨d,v,θ,μ,Qd,rfl,wk,rd,hw,f⟩ | ⟨d,e,v,w,θ,μ,Qd,rfl,wk,rd,re,hw,f⟩
 ·simp only [wBlt] at hw
  split at hw
  ·rename_i n ns hb
   cases q:lstOf μ d with
   | none=>rw [q] at hb; cases hb
   | some ds =>
    rw [q] at hb
    obtain ⟨a,ys,rfl,hx,rs⟩:=lstOf_sq wk rd q
    cases ints_V rs hb
    exact call_minL hc pins s σ H _ us Q I r ⟨a,n,ns,rfl,hx,f.at wk rp_int hw⟩
  ·exact hw.elim
 ·cases d with
  | int i =>
   cases e with
   | int j =>
    cases inv_int rd; cases inv_int re
    exact call_min2 hc pins s σ H _ us Q I r ⟨i,j,rfl,f.at wk rp_int hw⟩
   | _=>simp [wBlt] at hw
  | _=>simp [wBlt] at hw
theorem blt_divmod:CallR X (.builtin "divmod") (lowA X.K (wBlt "divmod")):=by
 intro pins s σ H xs us Q I r h
 rcases one_of h with ⟨d,v,θ,μ,Qd,rfl,wk,rd,hw,f⟩ | ⟨d,e,v,w,θ,μ,Qd,rfl,wk,rd,re,hw,f⟩
 ·simp [wBlt] at hw
 ·cases d with
  | int i =>
   cases e with
   | int j =>
    cases inv_int rd; cases inv_int re
    have hw:CDivD j∧Qd (.tup [.int (i / j),.int (i % j)]) μ:=hw
    obtain ⟨⟨h1,h2⟩,hq⟩:=hw
    obtain ⟨u,w',rfl,⟨t,rfl⟩,⟨t',rfl⟩⟩:=vals2 r
    have h3:j.natAbs < 2 ^ 500:=by omega
    have h4:j.natAbs≠0:=by omega
    have h5:=(Nat.log2_lt h4).mpr h3
    refine divmod_int (by omega) ?_ (.inl (PyProof.noPylong_of_log2 (by omega)))
    rw [Int.fdiv_eq_ediv_of_nonneg i (by omega),Int.fmod_eq_emod_of_nonneg i (by omega)]
    have hn:H s.heap.objs.size=none:=I.hok.fresh (Nat.le_refl _)
    refine ⟨.ref s.heap.objs.size,_,?_,rfl,new_tup wk f (xs:=[.int (i / j),.int (i % j)]) (.cons rp_int (.cons rp_int .nil)) hq hn⟩
    refine I.laid (fun b o e=>Heap.get?_push_of_some _ e) (Nat.le_refl _) ⟨by simp only [List.length_cons,List.length_nil]; rw [sizeLine_eq]; decide,[.int (i / j) s.toks,.int (i % j) (s.toks + 1)],.cons ⟨_,rfl⟩ (.cons ⟨_,rfl⟩ .nil),?_⟩
    exact ⟨_,Heap.get?_push_size s.heap rfl,rfl,0,rfl,rfl⟩
   | _=>simp [wBlt] at hw
  | _=>simp [wBlt] at hw
theorem tup_nl {K:PySem.W.Frag} {H:Hp} {θ:List Addr} {μ:Mem} {b:Addr} {xs:List V} (wk:WOk K H θ μ) (h:H b=some (.tup xs)):¬ Live θ μ b:=by
 rintro ⟨n,c,h1,h2,h3⟩
 have:=wk.cell n c b h2 h1
 cases c with
 | lst ds=>obtain ⟨_,e,_⟩:=this; rw [h] at e; cases e
 | ins c fs=>obtain ⟨_,_,_,_,e,_⟩:=this; rw [h] at e; cases e
 | dic ks ds=>obtain ⟨_,e,_⟩:=this; rw [h] at e; cases e
 | dtc ks ds=>obtain ⟨_,e,_⟩:=this; rw [h] at e; cases e
 | fdt o ks ds=>obtain ⟨_,e,_⟩:=this; rw [h] at e; cases e
 | exc c ks ds=>obtain ⟨_,_,_,_,e,_⟩:=this; rw [h] at e; cases e
 | gone=>exact h3 rfl
theorem ints_reps {H:Hp} {θ:List Addr} {μ:Mem}:∀ (l:List Int),Rps X.K H θ μ (l.map D.int) (l.map V.int)
 | []=>Reps.nil
 | i :: l=>Reps.cons rp_int (ints_reps l)
theorem keys_ti {K:PySem.W.Frag} {H:Hp} {θ:List Addr} {μ:Mem} (wk:WOk K H θ μ):∀ {kvs:List (List Key×V)} {xs:List (List Key×Addr×Value)} {r:List (List Int)},KT H kvs xs→kvs.map (·.1)=(r.map fun l=>l.map (Sum.inl:Int→DKey)).map (·.map keyOf) →
  Rps K H θ μ (r.map tI) (xs.map fun q=>V.ref q.2.1)∧∀ (i:Nat) (q:List Key×Addr×Value) (l:List Int),xs[i]? = some q→r[i]? = some l→H q.2.1=some (.tup (l.map V.int))
 | [],xs,r,t,e=>by
  cases t
  have:r=[]:=by simpa using e.symm
  subst this
  exact ⟨Reps.nil,fun i q l h=>by simp at h⟩
 | p :: kvs,xs,r,t,e=>by
  cases t with
  | cons h t =>
   rename_i q qs
   cases r with
   | nil=>simp at e
   | cons l r =>
    simp only [List.map_cons,List.cons.injEq] at e
    obtain ⟨i1,i2⟩:=keys_ti wk t e.2
    have hH:H q.2.1=some (.tup (l.map V.int)):=by
     rw [h.2.1,e.1,List.map_map,List.map_map]
     rfl
    refine ⟨?_,fun i q' l' h1 h2=>?_⟩
    ·rw [List.map_cons,List.map_cons]
     refine Reps.cons ?_ i1
     unfold tI Rep
     refine ⟨_,_,rfl,hH,tup_nl wk hH,?_⟩
     have:∀ l:List Int,Reps K H θ (Live θ μ) (l.map D.int) (l.map V.int):=by
      intro l
      induction l with
      | nil=>exact Reps.nil
      | cons i l ih=>exact Reps.cons rp_int ih
     exact this l
    ·cases i with
     | zero=>simp at h1 h2; subst h1 h2; exact hH
     | succ i=>exact i2 i q' l' (by simpa using h1) (by simpa using h2)
theorem blt_str:CallR X (.type "str") (lowA X.K (wBlt "str")):=by
 intro pins s σ H xs us Q I r h
 rcases one_of h with ⟨d,v,θ,μ,Qd,rfl,wk,rd,hw,f⟩ | ⟨d,e,v,w,θ,μ,Qd,rfl,wk,rd,re,hw,f⟩
 ·simp only [wBlt] at hw
  cases d with
  | int i =>
   cases inv_int rd
   refine call_str_int pins s σ H _ us Q I r ⟨i,rfl,hw.1,?_⟩
   have e:(⟨(decS i).toArray⟩:Str)=Str.ofString (toString i):=by simp [decS]
   have hl:(decS i).length≤sizeLine:=by
    have:=int_text_fits hw.1
    simpa [decS,Str.length] using this
   have:=f.at wk (rp_str hl) hw.2
   rw [e] at this
   exact this
  | _=>exact hw.elim
 ·simp [wBlt] at hw
theorem blt_int:CallR X (.type "int") (lowA X.K (wBlt "int")):=by
 intro pins s σ H xs us Q I r h
 rcases one_of h with ⟨d,v,θ,μ,Qd,rfl,wk,rd,hw,f⟩ | ⟨d,e,v,w,θ,μ,Qd,rfl,wk,rd,re,hw,f⟩
 ·simp only [wBlt] at hw
  cases d with
  | int i=>cases inv_int rd; exact call_int1 pins s σ H _ us Q I r (.inl ⟨i,rfl,f.at wk rp_int hw⟩)
  | bl b=>cases inv_bl rd; exact call_int1 pins s σ H _ us Q I r (.inr ⟨b,rfl,f.at wk rp_int hw⟩)
  | str x =>
   obtain ⟨n,⟨hl,hn⟩,hq⟩:=hw
   obtain ⟨rfl,_⟩:=inv_str rd
   obtain ⟨u,rfl,ru⟩:=vals1 r
   obtain ⟨t,rfl⟩:=ru
   exact PySem.W.KIN.call_text hn (by simpa [Str.length] using hl) ⟨.int n,H,I.tok _,⟨_,rfl⟩,f.at wk rp_int hq⟩
  | _=>exact hw.elim
 ·simp [wBlt] at hw
theorem pe_bltD {x:String} {as:List Expr} {ws:WA} {y:Str} {p pos:Pos} {e:Expr} {es:List Expr} (hx:x∈knownB) (ey:y=bname x) (hc:X.calm=true) (hrm:∃ k,Room k X.A) (g:Gl X y) (m:X.mg y=none) (ha:PA X (e :: es) (LA X.K ws))
  (hs:starEach (e :: es) X.env=(false,eval e X.env) :: starEach es X.env) (hpl:(backTo pos (starEach es X.env)).any (·.1)=false) :
  PE X (.Call (.Name y p) (e :: es) [] pos) (LE X.K fun ρ μ Q=>ws ρ μ fun ds μ1=>wBlt x ds μ1 Q):=by
 have wk:∀ {f:Value},PE X (.Call (.Name y p) (e :: es) [] pos) (tCB (lowA X.K (wBlt x)) (LA X.K ws))→PE X (.Call (.Name y p) (e :: es) [] pos) (LE X.K fun ρ μ Q=>ws ρ μ fun ds μ1=>wBlt x ds μ1 Q):=fun h=>PE.wk h fun σ H Q z=>le_args z
 subst ey
 simp only [knownB,List.mem_cons,List.not_mem_nil,or_false] at hx
 rcases hx with rfl | rfl | rfl | rfl | rfl | rfl | rfl | rfl
 ·exact wk (f:=.none) (pe_callB blt_len g m (by decide +kernel) ha (by decide +kernel) (by decide +kernel) hs hpl)
 ·exact wk (f:=.none) (pe_callB blt_abs g m (by decide +kernel) ha (by decide +kernel) (by decide +kernel) hs hpl)
 ·exact wk (f:=.none) (pe_callB (blt_all hc) g m (by decide +kernel) ha (by decide +kernel) (by decide +kernel) hs hpl)
 ·exact wk (f:=.none) (pe_callB (blt_max hc) g m (by decide +kernel) ha (by decide +kernel) (by decide +kernel) hs hpl)
 ·exact wk (f:=.none) (pe_callB (blt_min hc) g m (by decide +kernel) ha (by decide +kernel) (by decide +kernel) hs hpl)
 ·exact wk (f:=.none) (pe_callB blt_divmod g m (by decide +kernel) ha (by decide +kernel) (by decide +kernel) hs hpl)
 ·exact wk (f:=.none) (pe_callTy blt_str g m (by decide +kernel) ha (by decide +kernel) (by decide +kernel) hs hpl)
 ·exact wk (f:=.none) (pe_callTy blt_int g m (by decide +kernel) ha (by decide +kernel) (by decide +kernel) hs hpl)
end
end DW
end
section
set_option autoImplicit false
namespace L2
open PySem PySem.Spec PyProof.Rows
theorem closureFor_go {env:Env}:∀ (names:List (Str×NameKind)) (acc:List (Str×Addr)),(∀ y∈names,y.2 = .free→∃ c,env.cells.lookup y.1=some c) →
  (∀ y c,acc.lookup y=some c→env.cells.lookup y=some c) →
  ∃ cl:List (Str×Addr),(forIn names acc fun (x:Str×NameKind) (r:List (Str×Addr))=>match x with
   | (name,kind)=>if (kind == .free)=true then (do let c ← cellOf env name; pure (ForInStep.yield ((name,c) :: r))) else pure (ForInStep.yield r))=(pure cl:Sem (List (Str×Addr))) ∧
   (∀ y c,cl.lookup y=some c→env.cells.lookup y=some c)∧(∀ y,(acc.lookup y).isSome=true→(cl.lookup y).isSome=true)∧∀ y∈names,y.2 = .free→(cl.lookup y.1).isSome=true
 | [],acc,_,h2=>⟨acc,by simp,h2,fun _ h=>h,fun y hy=>nomatch hy⟩
 | (n,k) :: r,acc,h1,h2=>by
  by_cases hk:k = .free
  ·subst hk
   obtain ⟨c,hc⟩:=h1 (n,.free) List.mem_cons_self rfl
   obtain ⟨cl,e1,e2,e3,e4⟩:=closureFor_go r ((n,c) :: acc) (fun y hy=>h1 y (List.mem_cons_of_mem _ hy)) (fun y d hy=>by
    rw [List.lookup_cons] at hy
    split at hy
    ·rename_i hb
     rw [eq_of_beq hb]; cases hy; exact hc
    ·exact h2 y d hy)
   refine ⟨cl,?_,e2,fun y hy=>e3 y ?_,fun y hy hf=>?_⟩
   ·rw [List.forIn_cons]
    simp only [beq_self_eq_true,if_true]
    have:cellOf env n=pure c:=by unfold cellOf; rw [hc]
    rw [this,pure_bind,pure_bind]
    exact e1
   ·rw [List.lookup_cons]; split <;> simp_all
   ·rcases List.mem_cons.mp hy with rfl | hy
    ·exact e3 n (by simp [List.lookup_cons])
    ·exact e4 y hy hf
  ·obtain ⟨cl,e1,e2,e3,e4⟩:=closureFor_go r acc (fun y hy=>h1 y (List.mem_cons_of_mem _ hy)) h2
   refine ⟨cl,?_,e2,e3,fun y hy hf=>?_⟩
   ·rw [List.forIn_cons]
    have hb:(k == NameKind.free)=false:=by simpa using hk
    simp only [hb,Bool.false_eq_true,if_false]
    rw [pure_bind]
    exact e1
   ·rcases List.mem_cons.mp hy with rfl | hy
    ·exact absurd hf hk
    ·exact e4 y hy hf
theorem closureFor_some {scope:Scope} {env:Env} (h:∀ y∈scope.names,y.2 = .free→∃ c,env.cells.lookup y.1=some c) :
  ∃ cl,closureFor scope env=pure cl∧(∀ y c,cl.lookup y=some c→env.cells.lookup y=some c)∧∀ y∈scope.names,y.2 = .free→(cl.lookup y.1).isSome=true:=by
 obtain ⟨cl,e1,e2,_,e4⟩:=closureFor_go scope.names [] h (fun y c hy=>by simp at hy)
 refine ⟨cl,?_,e2,e4⟩
 unfold closureFor
 simp only [bind_pure]
 exact e1
noncomputable def compX (X:Cx) (Nc:List Str) (scope:Scope) (cl:List (Str×Addr)) (C:Addr) (s:Shared) (H:Hp) (ex:List Addr):Cx :=
 { X with N:=Nc,s₀:=s,H₀:=H,env:=compEnvC scope cl C X.env,outer:=X.stack,ex:=ex,fn:=fun y=>scope.names.lookup y == some .cell,pn:=[],xe:=fun _ _=>False }
noncomputable def PIf (X:Cx) (ifs:List Expr) (t:TT):Prop :=
 ∀ (pins:List (Addr×Obj)) (s:Shared) (σ:St) (H:Hp) (Q:Bool→Hp→Prop),Inv X pins σ H s→t σ H Q →
  wpAny (model X.prog X.w) X.A (forIn ifs true fun c r=>if r=true then do let ok ← isTrue c X.env (eval c X.env); pure (ForInStep.yield ok) else pure (ForInStep.yield r)) (TP X pins σ Q) X.xe s
theorem pif_nil {X:Cx}:PIf X [] (fun σ H Q=>Q true H):=fun pins s σ H Q I h=>by
 rw [List.forIn_nil]; exact wpAny_pure ⟨H,I,h⟩
theorem pif_one {X:Cx} {c:Expr} {t:TT} (hc:PT X c t):PIf X [c] t:=fun pins s σ H Q I h=>by
 rw [List.forIn_cons]
 simp only [if_true]
 refine wpAny_bind (wpAny_bind (thn (hc pins s σ H Q I h) fun b s1 q=>wpAny_pure ?_))
 show wpAny _ _ (forIn ([]:List Expr) b _) _ _ _
 rw [List.forIn_nil]; exact wpAny_pure q
noncomputable def capS (cap:List Nat) (σ:St):St:=cap.map fun i=>(σ[i]?).join
noncomputable def tComp (n:Nat) (gt:TG) (cap:List Nat) (wi:TI) (tt:TT) (te:TE):TE:=fun σ H Q=>wi σ H fun J H1=>∃ W:Nat→Nat→List V→St→Hp→Prop,(∃ m,W 0 m [] (List.replicate n none ++ capS cap σ) H1)∧∀ i m vs σc H,W i m vs σc H →
 (vs.length≤sizeLine∧J.stop i H∧∀ p,H p=none→Q (.ref p) (upd H p (.lst vs))) ∨
 (J.go i H∧vs.length < sizeLine∧∀ x H',J.yld i H x H'→gt x σc H' fun σ2 H2=>tt σ2 H2 fun b H3 =>
  if b=true then te σ2 H3 fun v H4=>∃ m',m' < m∧W (i + 1) m' (vs ++ [v]) σ2 H4 else ∃ m',m' < m∧W (i + 1) m' vs σ2 H3)
structure CompTxt (X:Cx) (xs:List Str) (scope:Scope) (Nc:List Str) (cap:List Nat):Prop where
 kind:scope.kind = .function
 cells:∀ y∈scope.names,y.2 = .cell→scope.names.lookup y.1=some .cell
 names:∀ y∈scope.names,y.2 = .local→scope.names.lookup y.1=some .local
 nd:Nc.Nodup
 caps:∀ (j:Nat) (y:Str),Nc[xs.length + j]? = some y→∃ i,cap[j]? = some i∧X.N[i]? = some y∧scope.names.lookup y=some .free
 len:Nc.length=xs.length + cap.length
 free:∀ y∈scope.names,y.2 = .free→X.env.kindOf y.1=some .cell∨X.env.kindOf y.1=some .free
theorem relabel_free {env:Env}:∀ {names:List (Str×NameKind)} {x:Str},names.lookup x=some .free →
  (names.map fun (n,k)=>if (k == NameKind.free && env.scope.kind == .function && env.kindOf n == some .cell) then (n,NameKind.cell) else (n,k)).lookup x=some .free ∨
  (names.map fun (n,k)=>if (k == NameKind.free && env.scope.kind == .function && env.kindOf n == some .cell) then (n,NameKind.cell) else (n,k)).lookup x=some .cell
 | [],_,h=>by simp at h
 | (n,k) :: r,x,h=>by
  have ih:=@relabel_free env r x
  show List.lookup x ((if (k == NameKind.free && env.scope.kind == .function && env.kindOf n == some .cell)=true then (n,NameKind.cell) else (n,k)) :: _)=_∨List.lookup x ((if (k == NameKind.free && env.scope.kind == .function && env.kindOf n == some .cell)=true then (n,NameKind.cell) else (n,k)) :: _)=_
  by_cases hc:(k == NameKind.free && env.scope.kind == .function && env.kindOf n == some .cell)=true
  ·rw [if_pos hc]
   cases hx:x == n with
   | true=>right; simp only [List.lookup_cons,hx]
   | false =>
    simp only [List.lookup_cons,hx] at h ⊢
    exact ih h
  ·rw [if_neg hc]
   cases hx:x == n with
   | true =>
    simp only [List.lookup_cons,hx] at h ⊢
    exact .inl h
   | false =>
    simp only [List.lookup_cons,hx] at h ⊢
    exact ih h
theorem relabel_glob' {env:Env}:∀ {names:List (Str×NameKind)} {x:Str},names.lookup x=some .globalImplicit →
  (names.map fun (n,k)=>if (k == NameKind.free && env.scope.kind == .function && env.kindOf n == some .cell) then (n,NameKind.cell) else (n,k)).lookup x=some .globalImplicit
 | [],_,h=>by simp at h
 | (n,k) :: r,x,h=>by
  have ih:=@relabel_glob' env r x
  show List.lookup x ((if (k == NameKind.free && env.scope.kind == .function && env.kindOf n == some .cell)=true then (n,NameKind.cell) else (n,k)) :: _)=_
  by_cases hc:(k == NameKind.free && env.scope.kind == .function && env.kindOf n == some .cell)=true
  ·rw [if_pos hc]
   cases hx:x == n with
   | true =>
    simp only [List.lookup_cons,hx] at h
    have:k = .free:=by
     rw [Bool.and_eq_true,Bool.and_eq_true] at hc
     simpa using hc.1.1
    rw [this] at h; cases h
   | false =>
    simp only [List.lookup_cons,hx] at h ⊢
    exact ih h
  ·rw [if_neg hc]
   cases hx:x == n with
   | true =>
    simp only [List.lookup_cons,hx] at h ⊢
    exact h
   | false =>
    simp only [List.lookup_cons,hx] at h ⊢
    exact ih h
theorem relabel_glob {scope:Scope} {env:Env} {x:Str} (h:scope.names.lookup x=some .globalImplicit):(relabel scope env).names.lookup x=some .globalImplicit:=relabel_glob' h
theorem relabel_cell {env:Env}:∀ {names:List (Str×NameKind)} {x:Str},names.lookup x=some .cell →
  (names.map fun (n,k)=>if (k == NameKind.free && env.scope.kind == .function && env.kindOf n == some .cell) then (n,NameKind.cell) else (n,k)).lookup x=some .cell
 | [],_,h=>by simp at h
 | (n,k) :: r,x,h=>by
  have ih:=@relabel_cell env r x
  show List.lookup x ((if (k == NameKind.free && env.scope.kind == .function && env.kindOf n == some .cell)=true then (n,NameKind.cell) else (n,k)) :: _)=_
  by_cases hc:(k == NameKind.free && env.scope.kind == .function && env.kindOf n == some .cell)=true
  ·rw [if_pos hc]
   cases hx:x == n with
   | true=>simp only [List.lookup_cons,hx]
   | false =>
    simp only [List.lookup_cons,hx] at h ⊢
    exact ih h
  ·rw [if_neg hc]
   cases hx:x == n with
   | true =>
    simp only [List.lookup_cons,hx] at h ⊢
    exact h
   | false =>
    simp only [List.lookup_cons,hx] at h ⊢
    exact ih h
theorem cells_app:∀ (names:List (Str×NameKind)) (n:Nat) (acc:List (Str×Addr)),cellsFrom n names acc=cellsFrom n names [] ++ acc
 | [],n,acc=>rfl
 | (x,k) :: r,n,acc=>by
  unfold cellsFrom
  split
  ·rw [cells_app r (n + 1) ((x,n) :: acc),cells_app r (n + 1) [(x,n)]]; simp
  ·exact cells_app r n acc
theorem cells_mem:∀ (names:List (Str×NameKind)) (n:Nat) (y:Str) (c:Addr),(y,c)∈cellsFrom n names []→(y,NameKind.cell)∈names
 | [],n,y,c,h=>by simp [cellsFrom] at h
 | (x,k) :: r,n,y,c,h=>by
  unfold cellsFrom at h
  split at h
  ·rename_i hk
   rw [cells_app] at h
   rcases List.mem_append.mp h with z | z
   ·exact List.mem_cons_of_mem _ (cells_mem r _ y c z)
   ·simp only [List.mem_cons,List.not_mem_nil,or_false,Prod.mk.injEq] at z
    obtain ⟨rfl,_⟩:=z
    rw [eq_of_beq hk]; exact List.mem_cons_self
  ·exact List.mem_cons_of_mem _ (cells_mem r _ y c h)
theorem cells_has:∀ (names:List (Str×NameKind)) (n:Nat) (y:Str),(y,NameKind.cell)∈names→((cellsFrom n names []).lookup y).isSome=true
 | [],n,y,h=>by simp at h
 | (x,k) :: r,n,y,h=>by
  unfold cellsFrom
  rcases List.mem_cons.mp h with z | z
  ·cases z
   rw [if_pos (by rfl),cells_app,List.lookup_append]
   cases q:(cellsFrom (n + 1) r []).lookup x with
   | some c=>rfl
   | none=>simp [List.lookup_cons]
  ·split
   ·rw [cells_app,List.lookup_append]
    have:=cells_has r (n + 1) y z
    obtain ⟨c,e⟩:=Option.isSome_iff_exists.mp this
    rw [e]; rfl
   ·exact cells_has r n y z
theorem newEnv_comp {M:Model} {A:Around} {E:Value→Shared→Prop} {s:Shared} {scope:Scope} {globals:Addr} {cl:List (Str×Addr)} {qual:Str} {env:Env} {Q:Env→Shared→Prop}
  (hQ:Q (newEnv scope s.heap.objs.size globals (cellsFrom (s.heap.objs.size + 1) scope.names cl) qual none .none (some env) builtinsNs) { s with heap:=pushCells (s.heap.push { cls:=.type "dict",data:=.dict #[] }) scope.names }) :
  wpAny M A (newFunctionEnv scope globals cl [] qual none .none (some env)) Q E s:=by
 simp only [newFunctionEnv,Option.isSome_some,if_true]
 refine wpAny_bind (wpAny_alloc ?_)
 refine wpAny_bind (wpAny_layCells _ (fun name kind cells=>by cases hkc:kind == NameKind.cell <;> simp [hkc]) _ _ _ _ ?_)
 rw [show ({ s with heap:=s.heap.push { cls:=.type "dict",data:=.dict #[] } }:Shared).heap.objs.size=s.heap.objs.size + 1 from Heap.size_push ..]
 rw [List.forIn_nil]
 exact wpAny_bind (wpAny_pure (wpAny_pure hQ))
theorem relabel_lookup {env:Env}:∀ {names:List (Str×NameKind)} {x:Str} {k:NameKind},
  (names.map fun (n,k)=>if (k == NameKind.free && env.scope.kind == .function && env.kindOf n == some .cell) then (n,NameKind.cell) else (n,k)).lookup x=some k →
  names.lookup x=some k∨(k = .cell∧names.lookup x=some .free)
 | [],_,_,h=>by simp at h
 | (n,k0) :: r,x,k,h=>by
  have ih:=@relabel_lookup env r x k
  have h':List.lookup x ((if (k0 == NameKind.free && env.scope.kind == .function && env.kindOf n == some .cell)=true then (n,NameKind.cell) else (n,k0)) :: (r.map fun (n,k)=>if (k == NameKind.free && env.scope.kind == .function && env.kindOf n == some .cell) then (n,NameKind.cell) else (n,k)))=some k:=h
  by_cases hc:(k0 == NameKind.free && env.scope.kind == .function && env.kindOf n == some .cell)=true
  ·rw [if_pos hc] at h'
   cases hx:x == n with
   | true =>
    simp only [List.lookup_cons,hx] at h' ⊢
    cases h'
    have:k0 = .free:=by
     rw [Bool.and_eq_true,Bool.and_eq_true] at hc
     simpa using hc.1.1
    exact .inr ⟨rfl,by rw [this]⟩
   | false =>
    simp only [List.lookup_cons,hx] at h' ⊢
    exact ih h'
  ·rw [if_neg hc] at h'
   cases hx:x == n with
   | true =>
    simp only [List.lookup_cons,hx] at h' ⊢
    exact .inl h'
   | false =>
    simp only [List.lookup_cons,hx] at h' ⊢
    exact ih h'
end L2
namespace L2
open PySem PySem.Spec PyProof.Rows
section
variable {X:Cx} {elt iter tg:Expr} {xs:List Str} {gt:TG} {ifs:List Expr} {scope:Scope} {pos:Pos} {Nc:List Str} {cap:List Nat} {tt:TT} {te:TE} {cl:List (Str×Addr)}
 {pins:List (Addr×Obj)} {s2:Shared} {σ:St} {H2:Hp} {it:Addr} {fp:List Addr} {tn:Nat→Heap→Prop} {J:It}
noncomputable abbrev listAt (h:Heap) (D:Addr) (vs:List V):Prop:=∃ (its:List Value) (n:Nat),Vals vs its∧h.get? D=some { cls:=.type "list",data:=.seq its.toArray n }
theorem comp_loopT {prog:Program} {w:World} {A:Around} {R:Result→Shared→Prop} {s:Shared} {elt tg iter:Expr} {ifs:List Expr} {scope:Scope} {pos:Pos} {it acc:Value} {env:Env} (J:Nat→Shared→Prop)
  (turn:∀ m s0,J m s0→wpAny (model prog w) A (pyNext it) (fun r s1=>match r with
   | none=>R (.ok .next) s1
   | some v=>wpAny (model prog w) A (letOwnedTupleGo tg it v) (fun _ s2=>wpAny (model prog w) A (assign tg env v) (fun _ s3 =>
     wpAny (model prog w) A (forIn ifs true fun c r=>if r=true then do let ok ← isTrue c env (eval c env); pure (ForInStep.yield ok) else pure (ForInStep.yield r)) (fun b s4 =>
      if b=true then wpAny (model prog w) A (eval elt env) (fun x s5 =>
       wpAny (model prog w) A (call (.builtin "list.append") [acc,x]) (fun _ s6=>∃ k,k < m∧J k s6) (notedBy (model prog w) A env fun e z=>R (.error e) z) s5) (notedBy (model prog w) A env fun e z=>R (.error e) z) s4
      else ∃ k,k < m∧J k s4) (notedBy (model prog w) A env fun e z=>R (.error e) z) s3) (notedBy (model prog w) A env fun e z=>R (.error e) z) s2) (notedBy (model prog w) A env fun e z=>R (.error e) z) s1) (notedBy (model prog w) A env fun e z=>R (.error e) z) s0)
  (m:Nat) (h:J m s):codeAny (model prog w) A (.compLoop (.ListComp elt [⟨tg,iter,ifs,0⟩] scope pos) 0 it acc env) R s:=by
 refine codeAny_loop rfl J ?_ m h
 intro m s0 h0
 have q:=turn m s0 h0
 show wpAny _ A (Sem.onRaise (compTurn (.ListComp elt [⟨tg,iter,ifs,0⟩] scope pos) 0 it acc env) _) _ _ s0
 apply wpAny_noted
 rw [compTurn_list]
 apply wpAny_bind
 apply wpAny_standAt
 refine wpAny_bind (thn q ?_)
 rintro (_ | v) s1 q
 ·exact wpAny_pure q
 refine wpAny_bind (thn q ?_)
 intro _ s2 q
 refine wpAny_bind (thn q ?_)
 intro _ s3 q
 refine wpAny_bind (thn q ?_)
 rintro (_ | _) s4 q
 ·exact wpAny_pure ⟨rfl,q⟩
 refine wpAny_bind (wpAny_bind (thn q ?_))
 intro x s5 q
 refine wpAny_bind (thn q ?_)
 intro _ s6 q
 exact wpAny_pure (wpAny_pure ⟨rfl,q⟩)
theorem comp_start (T:CompTxt X xs scope Nc cap) {h₁:Heap} {o:Obj} (hcl:∀ y c,cl.lookup y=some c→(scope.names.lookup y≠some .cell∧X.env.cells.lookup y=some c)∨(scope.names.lookup y=some .cell∧(s2.heap.push o).objs.size < c∧h₁.IsCell c none)) (hcl1:∀ y z c,cl.lookup y=some c→cl.lookup z=some c→y=z) (hcl2:∀ y∈scope.names,(y.2 = .free∨y.2 = .cell)→(cl.lookup y.1).isSome=true)
  (I2:Inv X pins σ H2 s2) (st2:tn 0 s2.heap) (Tn:Turn X.calm X.prog X.w X.K tg J fp it tn) (f2:∀ b∈fp,FpOk X pins H2 b) {m:Str→Option Value} {tk:Nat}
  (ho:∀ v,o.data≠.cell v)
  (hns:h₁.Ns (s2.heap.push o).objs.size m) (old:∀ b ob,(s2.heap.push o).get? b=some ob→h₁.get? b=some ob) :
  Inv (compX X Nc scope cl (s2.heap.push o).objs.size { s2 with heap:=s2.heap.push o } H2 (s2.heap.objs.size :: fp)) [] (List.replicate xs.length none ++ capS cap σ) H2 { s2 with heap:=h₁,toks:=tk }:=by
 have hC:(s2.heap.push o).objs.size=s2.heap.objs.size + 1:=Heap.size_push ..
 have old2:∀ b ob,s2.heap.get? b=some ob→h₁.get? b=some ob:=fun b ob e=>old b ob (Heap.get?_push_of_some _ e)
 have hfr:∀ b,s2.heap.objs.size≤b→H2 b=none:=fun b hb=>I2.hok.fresh hb
 have cellLt:∀ y c,X.env.cells.lookup y=some c→c < s2.heap.objs.size:=fun y c e=>let ⟨v,q⟩:=I2.cell y c e; q.lt
 have fpLt:∀ b∈fp,b < s2.heap.objs.size:=fun b hb=>let ⟨ob,e,_⟩:=Tn.obj 0 s2.heap st2 b hb; Heap.lt_size e
 have kinds:∀ y,((compEnvC scope cl (s2.heap.push o).objs.size X.env).kindOf y=some .cell∨(compEnvC scope cl (s2.heap.push o).objs.size X.env).kindOf y=some .free)→scope.names.lookup y=some .free∨scope.names.lookup y=some .cell:=fun y hy=>by
  rcases hy with hy | hy
  ·rcases relabel_lookup (env:=X.env) (show (scope.names.map _).lookup y=some .cell from hy) with z | ⟨_,z⟩
   ·exact .inr z
   ·exact .inl z
  ·rcases relabel_lookup (env:=X.env) (show (scope.names.map _).lookup y=some .free from hy) with z | ⟨z,_⟩
   ·exact .inl z
   ·cases z
 refine ⟨⟨I2.ok.mod,T.kind,I2.ok.glob,I2.ok.blt,Nat.le_refl _,hcl1,fun y hy=>?_,fun y c h h2=>?cab,I2.ok.hd,I2.ok.frames,.inl rfl,fun b hb=>?_,fun b ob e=>?_,?_,fun b ob e hb=>?_,fun b hb hf=>?_,?_,fun b hb=>I2.stkFree b hb⟩,
  rfl,I2.bare,Un.kept old,⟨m,hns,fun i y v h1 h2 h3=>?_⟩,fun y c h=>?_,hfr _ (by show s2.heap.objs.size≤(s2.heap.push o).objs.size; omega),fun y c h=>?freeC,fun p hp=>absurd (show p∈([]:List (Addr×Obj)) from hp) (by simp),I2.hok.kept old2,?_,I2.hh⟩
 case cab =>
  have h:scope.names.lookup y=some .cell:=eq_of_beq h
  rcases hcl y c h2 with ⟨z,_⟩ | ⟨_,z,_⟩
  ·exact absurd h z
  ·exact Nat.le_of_lt z
 case freeC =>
  rcases hcl y c h with ⟨_,z⟩ | ⟨_,z,_⟩
  ·exact I2.freeC y c z
  ·exact hfr c (by omega)
 ·rcases kinds y hy with z | z
  ·exact Option.isSome_iff_exists.mp (hcl2 _ (PySem.mem_of_lookup z) (.inl rfl))
  ·exact Option.isSome_iff_exists.mp (hcl2 _ (PySem.mem_of_lookup z) (.inr rfl))
 ·refine ⟨?_,fun y c h z=>?_⟩
  ·show b≠(s2.heap.push o).objs.size
   rcases List.mem_cons.mp hb with rfl | hb
   ·exact Nat.ne_of_lt (by rw [hC]; exact Nat.lt_succ_self _)
   ·exact Nat.ne_of_lt (by rw [hC]; exact Nat.lt_succ_of_lt (fpLt b hb))
  ·rcases hcl y c h with ⟨_,w⟩ | ⟨_,w,_⟩
   ·have hc:=cellLt y c w
    subst z
    rcases List.mem_cons.mp hb with rfl | hb
    ·exact Nat.lt_irrefl _ hc
    ·exact (f2 _ hb).2.2.2.2.1 y _ w rfl
   ·subst z
    rcases List.mem_cons.mp hb with rfl | hb
    ·omega
    ·exact Nat.lt_irrefl _ (Nat.lt_trans (fpLt _ hb) (Nat.lt_trans (by rw [hC]; exact Nat.lt_succ_self _) w))
 ·have:=I2.bs b ob e
  exact ⟨Heap.get?_push_of_some _ this.1,this.2⟩
 ·show X.base.objs.size≤(s2.heap.push o).objs.size
  have:=Nat.le_trans I2.ok.bsz I2.sz
  omega
 ·have h1:=(I2.bs b ob e).1
  rcases List.mem_cons.mp hb with rfl | hb
  ·exact Nat.lt_irrefl _ (Heap.lt_size h1)
  ·rcases (f2 b hb).2.2.2.1 with z | z
   ·exact I2.ok.noex b ob e z
   ·have h3:b < X.base.objs.size:=Heap.lt_size e
    have h4:=I2.ok.bsz
    exact absurd (Nat.lt_of_lt_of_le h3 (Nat.le_trans h4 z)) (Nat.lt_irrefl _)
 ·show False
  rcases List.mem_cons.mp hb with rfl | hb
  ·obtain ⟨_,ob,e,_⟩:=I2.stack.mem hf
   exact Nat.lt_irrefl _ (Heap.lt_size e)
  ·rcases List.mem_cons.mp (I2.stkSub b hf) with z | z
   ·exact (f2 b hb).2.1 z
   ·exact (f2 b hb).2.2.1 z
 ·exact (I2.stack:s2.heap.FunFrames X.base X.stack).of_keeps (fun b ob e _=>⟨ob,Heap.get?_push_of_some _ e,rfl⟩)
 ·by_cases hix:i < xs.length
  ·rw [List.getElem?_append_left (by simpa using hix),List.getElem?_replicate] at h2
   split at h2 <;> cases h2
  ·obtain ⟨j,rfl⟩:∃ j,i=xs.length + j:=⟨i - xs.length,by omega⟩
   obtain ⟨i',e1,e2,e3⟩:=T.caps j y h1
   have hv:σ[i']? = some (some v):=by
    have h2':(capS cap σ)[j]? = some (some v):=by
     rw [List.getElem?_append_right (by simp)] at h2
     simpa using h2
    unfold capS at h2'
    rw [List.getElem?_map,e1] at h2'
    simp only [Option.map_some,Option.some.injEq] at h2'
    cases q:σ[i']? with
    | none=>rw [q] at h2'; cases h2'
    | some w'=>rw [q] at h2'; simp only [Option.join_some] at h2'; rw [h2']
   obtain ⟨mo,hno,hlo⟩:=I2.loc
   have hk:=T.free _ (PySem.mem_of_lookup e3) rfl
   have vis:Vis X.env.scope y:=by rcases hk with k | k; exact .inr (.inl k); exact .inr (.inr k)
   obtain ⟨u,r,l⟩:=hlo i' y v e2 hv vis
   refine ⟨u,r,.inr ⟨?_,?_⟩⟩
   ·exact (relabel_free (env:=X.env) e3).symm
   ·rcases l with ⟨k,_⟩ | ⟨_,c,e,z⟩
    ·rcases hk with k' | k' <;> (rw [k] at k'; cases k')
    ·obtain ⟨c',ec⟩:=Option.isSome_iff_exists.mp (hcl2 _ (PySem.mem_of_lookup e3) (.inl rfl))
     have ew:X.env.cells.lookup y=some c':=by
      rcases hcl y c' ec with ⟨_,w⟩ | ⟨w,_⟩
      ·exact w
      ·rw [e3] at w; cases w
     have e':some c=some c':=e.symm.trans ew
     cases e'
     obtain ⟨oc,q1,q2⟩:=z
     exact ⟨c,ec,oc,old2 _ _ q1,q2⟩
 ·rcases hcl y c h with ⟨_,w⟩ | ⟨_,_,w⟩
  ·obtain ⟨v,oc,q1,q2⟩:=I2.cell y c w
   exact ⟨v,oc,old2 _ _ q1,q2⟩
  ·exact ⟨none,w⟩
 ·show (List.replicate xs.length none ++ capS cap σ).length=Nc.length
  rw [T.len]
  simp [capS]
theorem comp_back (I2:Inv X pins σ H2 s2) (f2:∀ b∈fp,FpOk X pins H2 b) {o:Obj} {σ':St} {H:Hp} {s':Shared} {pins':List (Addr×Obj)} {vs:List V} {h':Heap}
  (I:Inv (compX X Nc scope cl (s2.heap.push o).objs.size { s2 with heap:=s2.heap.push o } H2 (s2.heap.objs.size :: fp)) pins' σ' H s') (hD:H s2.heap.objs.size=none) (hz:vs.length≤sizeLine) (hl:listAt s'.heap s2.heap.objs.size vs)
  (hs:Heap.SameBut (s2.heap.push o).objs.size s'.heap h'):Inv X pins σ (upd H s2.heap.objs.size (.lst vs)) { s' with heap:=h' }:=by
 have hC:(s2.heap.push o).objs.size=s2.heap.objs.size + 1:=Heap.size_push ..
 have hk:∀ b ob,b≠(s2.heap.push o).objs.size→s'.heap.get? b=some ob→h'.get? b=some ob:=fun b ob hb e=>(hs.2 b hb).trans e
 have B:Un (frs X.stack) (s2.heap.objs.size :: fp) H2 H (s2.heap.push o) s'.heap:=I.base
 have low:∀ b ob,s2.heap.get? b=some ob→b≠s2.heap.objs.size∧b≠(s2.heap.push o).objs.size:=fun b ob e=>by
  have:=Heap.lt_size e
  exact ⟨Nat.ne_of_lt this,Nat.ne_of_lt (by rw [hC]; exact Nat.lt_succ_of_lt this)⟩
 have nin:∀ b ob,s2.heap.get? b=some ob→b ∉ fp→b ∉ s2.heap.objs.size :: fp:=fun b ob e h z=>(List.mem_cons.mp z).elim (low b ob e).1 h
 refine I2.call' (ch:=fp) I.os ⟨fun b ob e n hf he=>?_,fun b ob e n hf he=>?_,fun b ob e n he=>?_,fun b ob e he=>?_,fun b xs e=>?_,fun b ob u e=>?_,fun b ps e=>?_⟩ ?_ I.bare fun b hb=>⟨(f2 b hb).2.2.2.1,(f2 b hb).2.1,(f2 b hb).2.2.2.2.1,(f2 b hb).2.2.2.2.2⟩
 ·exact hk b ob (low b ob e).2 (B.keep b ob (Heap.get?_push_of_some _ e) n hf (nin b ob e he))
 ·obtain ⟨sl,q⟩:=B.slot b ob (Heap.get?_push_of_some _ e) n hf (nin b ob e he)
  exact ⟨sl,hk b _ (low b ob e).2 q⟩
 ·rw [upd_ne (low b ob e).1]
  exact B.free b ob (Heap.get?_push_of_some _ e) n (nin b ob e he)
 ·obtain ⟨o',q⟩:=B.there b ob (Heap.get?_push_of_some _ e) (nin b ob e he)
  exact ⟨o',hk b _ (low b ob e).2 q⟩
 ·have q:=B.tups b xs e
  rw [upd_ne (ne_of_none q hD)]; exact q
 ·have q:=B.frzs b ob u e
  rw [upd_ne (ne_of_none q hD)]; exact q
 ·obtain ⟨more,q⟩:=B.tbls b ps e
  exact ⟨more,by rw [upd_ne (ne_of_none q hD)]; exact q⟩
 ·intro b ob e
  have hCn:H (s2.heap.push o).objs.size=none:=I.free
  by_cases hb:b=s2.heap.objs.size
  ·subst hb
   rw [upd_same] at e
   cases e
   obtain ⟨its,n,r,q⟩:=hl
   exact ⟨hz,its,n,r,hk _ _ (Nat.ne_of_lt (by rw [hC]; exact Nat.lt_succ_self _)) q⟩
  ·rw [upd_ne hb] at e
   refine (I.hok b ob e).stay (fun c u hc q=>hk c u ?_ q) (fun c q=>?_) fun c xs q=>?_
   ·rintro rfl
    rcases hc with rfl | hc
    ·rw [hCn] at e; cases e
    ·rw [hCn] at hc; cases hc
   ·rw [upd_ne (ne_of_none q hD)]; exact q
   ·rw [upd_ne (ne_of_none q hD)]; exact q
theorem comp_run (T:CompTxt X xs scope Nc cap) (hcl:∀ y c,cl.lookup y=some c→X.env.cells.lookup y=some c) (hcl2:∀ y∈scope.names,y.2 = .free→(cl.lookup y.1).isSome=true)
  (I2:Inv X pins σ H2 s2) (st2:tn 0 s2.heap) (Tn:Turn X.calm X.prog X.w X.K tg J fp it tn) (f2:∀ b∈fp,FpOk X pins H2 b)
  (hG:∀ cl C s H ex,PG (compX X Nc scope cl C s H ex) tg gt) (hT:∀ cl C s H ex,PIf (compX X Nc scope cl C s H ex) ifs tt) (hE:∀ cl C s H ex,PE (compX X Nc scope cl C s H ex) elt te)
  (W:Nat→Nat→List V→St→Hp→Prop) {m0:Nat} (w0:W 0 m0 [] (List.replicate xs.length none ++ capS cap σ) H2) {Fn:List V→Hp→Prop}
  (turn:∀ i m vs σc H,W i m vs σc H→(vs.length≤sizeLine∧J.stop i H∧Fn vs H) ∨
   (J.go i H∧vs.length < sizeLine∧∀ x H',J.yld i H x H'→gt x σc H' fun σ2 H2=>tt σ2 H2 fun b H3 =>
    if b=true then te σ2 H3 fun v H4=>∃ m',m' < m∧W (i + 1) m' (vs ++ [v]) σ2 H4 else ∃ m',m' < m∧W (i + 1) m' vs σ2 H3))
  {E:Value→Shared→Prop} {RR:Value→Addr→Result→Shared→Prop}
  (fin:∀ (C:Addr) (vs:List V) (H:Hp) (s':Shared) (m:Str→Option Value),s2.heap.objs.size < C→H C=none→s'.heap.Ns C m→H s2.heap.objs.size=none→Fn vs H →
   (∀ h',Heap.SameBut C s'.heap h'→Inv X pins σ (upd H s2.heap.objs.size (.lst vs)) { s' with heap:=h' })→RR (.ref s2.heap.objs.size) C (.ok .next) s') :
  wpAny (model X.prog X.w) X.A (newList []) (fun acc s₃=>wpAny (model X.prog X.w) X.A (newFunctionEnv scope X.env.globals cl [] X.env.qual none .none (some X.env)) (fun cenv s₄ =>
   codeAny (model X.prog X.w) X.A (.compStart (.ListComp elt [⟨tg,iter,ifs,0⟩] scope pos) 0 (.ref it) acc { cenv with scope:=relabel scope X.env }) (RR acc cenv.locals) s₄) E s₃) E s2:=by
 refine wpAny_newObj_type (newEnv_comp ?_)
 generalize hcf:cellsFrom ((s2.heap.push { cls:=.type "list",dict:=none,data:=.seq ([]:List Value).toArray }).objs.size + 1) scope.names cl=cf
 generalize hh₁:pushCells ((s2.heap.push { cls:=.type "list",dict:=none,data:=.seq ([]:List Value).toArray }).push { cls:=.type "dict",data:=.dict #[] }) scope.names=h₁
 have hns₁:h₁.Ns (s2.heap.push { cls:=.type "list",dict:=none,data:=.seq ([]:List Value).toArray }).objs.size (fun _=>none):=by
  rw [← hh₁]; exact (Heap.Ns.new _ (.type "dict")).keeps (pushCells_keeps _ _)
 have hsz:(s2.heap.push { cls:=.type "list",dict:=none,data:=.seq ([]:List Value).toArray }).objs.size=s2.heap.objs.size + 1:=Heap.size_push ..
 have oldC:∀ b ob,(s2.heap.push { cls:=.type "list",dict:=none,data:=.seq ([]:List Value).toArray }).get? b=some ob→h₁.get? b=some ob:=fun b ob e=>by
  rw [← hh₁]; exact pushCells_keeps _ _ b ob (Heap.get?_push_of_some _ e)
 have e2s:((s2.heap.push { cls:=.type "list",dict:=none,data:=.seq ([]:List Value).toArray }).push { cls:=.type "dict",data:=.dict #[] }).objs.size=(s2.heap.push { cls:=.type "list",dict:=none,data:=.seq ([]:List Value).toArray }).objs.size + 1:=Heap.size_push ..
 have own:=cellsFrom_ok scope.names ((s2.heap.push { cls:=.type "list",dict:=none,data:=.seq ([]:List Value).toArray }).push { cls:=.type "dict",data:=.dict #[] }) ((s2.heap.push { cls:=.type "list",dict:=none,data:=.seq ([]:List Value).toArray }).objs.size + 1) [] ⟨fun _ _ hm=>(nomatch hm),List.Pairwise.nil⟩ (by rw [e2s]; exact Nat.le_refl _)
 rw [e2s,hh₁] at own
 rw [cells_app] at hcf
 generalize how:cellsFrom ((s2.heap.push { cls:=.type "list",dict:=none,data:=.seq ([]:List Value).toArray }).objs.size + 1) scope.names []=ow at own hcf
 have lk:∀ y c,cf.lookup y=some c→(scope.names.lookup y≠some .cell∧cl.lookup y=some c)∨(ow.lookup y=some c):=fun y c h=>by
  rw [← hcf,List.lookup_append] at h
  cases q:ow.lookup y with
  | some c'=>rw [q] at h; exact .inr h
  | none =>
   rw [q] at h
   refine .inl ⟨fun z=>?_,h⟩
   have:=cells_has scope.names ((s2.heap.push { cls:=.type "list",dict:=none,data:=.seq ([]:List Value).toArray }).objs.size + 1) y (PySem.mem_of_lookup z)
   rw [how,q] at this
   cases this
 have owC:∀ y c,ow.lookup y=some c→scope.names.lookup y=some .cell∧(s2.heap.push { cls:=.type "list",dict:=none,data:=.seq ([]:List Value).toArray }).objs.size < c∧h₁.IsCell c none:=fun y c h=>by
  have hm:=PySem.mem_of_lookup h
  have h2:=cells_mem scope.names _ y c (by rw [how]; exact hm)
  exact ⟨T.cells _ h2 rfl,(own.empty y c hm).2,(own.empty y c hm).1⟩
 have cellLt:∀ y c,X.env.cells.lookup y=some c→c < s2.heap.objs.size:=fun y c e=>let ⟨v,q⟩:=I2.cell y c e; q.lt
 have hcl:∀ y c,cf.lookup y=some c→(scope.names.lookup y≠some .cell∧X.env.cells.lookup y=some c)∨(scope.names.lookup y=some .cell∧(s2.heap.push { cls:=.type "list",dict:=none,data:=.seq ([]:List Value).toArray }).objs.size < c∧h₁.IsCell c none):=fun y c h =>
  (lk y c h).imp (fun z=>⟨z.1,hcl y c z.2⟩) (owC y c)
 have hcl1:∀ y z c,cf.lookup y=some c→cf.lookup z=some c→y=z:=fun y z c h1 h2=>by
  rcases lk y c h1 with ⟨a1,a2⟩ | a <;> rcases lk z c h2 with ⟨b1,b2⟩ | b
  ·rcases hcl y c h1 with ⟨_,w1⟩ | ⟨w1,_⟩
   ·rcases hcl z c h2 with ⟨_,w2⟩ | ⟨w2,_⟩
    ·exact I2.ok.inj y z c w1 w2
    ·exact absurd w2 b1
   ·exact absurd w1 a1
  ·rcases hcl y c h1 with ⟨_,w1⟩ | ⟨w1,_⟩
   ·exact (Nat.lt_irrefl _ (Nat.lt_trans (cellLt y c w1) (Nat.lt_trans (by rw [hsz]; exact Nat.lt_succ_self _) (owC z c b).2.1))).elim
   ·exact absurd w1 a1
  ·rcases hcl z c h2 with ⟨_,w1⟩ | ⟨w1,_⟩
   ·exact (Nat.lt_irrefl _ (Nat.lt_trans (cellLt z c w1) (Nat.lt_trans (by rw [hsz]; exact Nat.lt_succ_self _) (owC y c a).2.1))).elim
   ·exact absurd w1 b1
  ·exact PySem.name_of_addr own.apart (PySem.mem_of_lookup a) (PySem.mem_of_lookup b)
 have hcl2:∀ y∈scope.names,(y.2 = .free∨y.2 = .cell)→(cf.lookup y.1).isSome=true:=fun y hy hk=>by
  rw [← hcf,List.lookup_append]
  rcases hk with hk | hk
  ·obtain ⟨c,e⟩:=Option.isSome_iff_exists.mp (hcl2 y hy hk)
   rw [e]
   cases ow.lookup y.1 <;> rfl
  ·have:=cells_has scope.names ((s2.heap.push { cls:=.type "list",dict:=none,data:=.seq ([]:List Value).toArray }).objs.size + 1) y.1 (by rw [← hk]; exact hy)
   rw [how] at this
   obtain ⟨c,e⟩:=Option.isSome_iff_exists.mp this
   rw [e]; rfl
 clear lk owC own how hcf
 dsimp only at hns₁ ⊢
 have I0:=comp_start (o:={ cls:=.type "list",dict:=none,data:=.seq ([]:List Value).toArray }) (tk:=s2.toks) T hcl hcl1 hcl2 I2 st2 Tn f2 (by intro v z; cases z) hns₁ oldC
 have st1:tn 0 h₁:=Tn.keep 0 _ _ st2 fun b _ ob e=>oldC b ob (Heap.get?_push_of_some _ e)
 have hD0:listAt h₁ s2.heap.objs.size []:=⟨[],0,.nil,oldC _ _ (Heap.get?_push_size _ rfl)⟩
 have fpF:∀ {H:Hp} {pn:List (Addr×Obj)},(∀ b∈fp,H b=none)→(∀ p∈pn,p.1 ∉ fp)→∀ b∈fp,FpOk (compX X Nc scope cf (s2.heap.push { cls:=.type "list",dict:=none,data:=.seq ([]:List Value).toArray }).objs.size { s2 with heap:=s2.heap.push { cls:=.type "list",dict:=none,data:=.seq ([]:List Value).toArray } } H2 (s2.heap.objs.size :: fp)) pn H b:=fun {H pn} hn hp b hb=>by
  have hlt:b < s2.heap.objs.size:=let ⟨ob,e,_⟩:=Tn.obj 0 s2.heap st2 b hb; Heap.lt_size e
  refine ⟨hn b hb,?_,fun z=>?_,.inl (List.mem_cons_of_mem _ hb),fun y c h=>?_,fun p hpp=>?_⟩
  ·exact Nat.ne_of_lt (by show b < (s2.heap.push _).objs.size; rw [hsz]; exact Nat.lt_succ_of_lt hlt)
  ·rcases List.mem_cons.mp (I2.stkSub b z) with z | z
   ·exact (f2 b hb).2.1 z
   ·exact (f2 b hb).2.2.1 z
  ·rcases hcl y c h with ⟨_,w⟩ | ⟨_,w,_⟩
   ·exact (f2 b hb).2.2.2.2.1 y c w
   ·exact Nat.ne_of_gt (Nat.lt_trans hlt (by omega))
  ·rcases List.mem_append.mp hpp with q | q
   ·exact absurd (show p∈([]:List (Addr×Obj)) from q) (by simp)
   ·exact fun z=>hp p q (z ▸ hb)
 have loop:codeAny (model X.prog X.w) X.A (.compLoop (.ListComp elt [⟨tg,iter,ifs,0⟩] scope pos) 0 (.ref it) (.ref s2.heap.objs.size) (compEnvC scope cf (s2.heap.push { cls:=.type "list",dict:=none,data:=.seq ([]:List Value).toArray }).objs.size X.env))
   (RR (.ref s2.heap.objs.size) (s2.heap.push { cls:=.type "list",dict:=none,data:=.seq ([]:List Value).toArray }).objs.size) { s2 with heap:=h₁,toks:=s2.toks }:=by
  generalize hX:compX X Nc scope cf (s2.heap.push { cls:=.type "list",dict:=none,data:=.seq ([]:List Value).toArray }).objs.size { s2 with heap:=s2.heap.push { cls:=.type "list",dict:=none,data:=.seq ([]:List Value).toArray } } H2 (s2.heap.objs.size :: fp)=X' at I0 fpF
  have eP:X'.prog=X.prog:=by rw [← hX]; rfl
  have ew:X'.w=X.w:=by rw [← hX]; rfl
  have eK:X'.K=X.K:=by rw [← hX]; rfl
  have eA:X'.A=X.A:=by rw [← hX]; rfl
  have ec:X'.calm=X.calm:=by rw [← hX]; rfl
  have eN:X'.N=Nc:=by rw [← hX]; rfl
  have ee:X'.env=compEnvC scope cf (s2.heap.push { cls:=.type "list",dict:=none,data:=.seq ([]:List Value).toArray }).objs.size X.env:=by rw [← hX]; rfl
  have ex:X'.xe=fun _ _=>False:=by rw [← hX]; rfl
  have eX:X'.ex=s2.heap.objs.size :: fp:=by rw [← hX]; rfl
  have hT':PIf X' ifs tt:=by rw [← hX]; exact hT _ _ _ _ _
  have hE':PE X' elt te:=by rw [← hX]; exact hE _ _ _ _ _
  have hG':PG X' tg gt:=by rw [← hX]; exact hG _ _ _ _ _
  have back:∀ {σ':St} {H:Hp} {s':Shared} {pins':List (Addr×Obj)} {vs:List V} {h':Heap},Inv X' pins' σ' H s'→H s2.heap.objs.size=none→vs.length≤sizeLine→listAt s'.heap s2.heap.objs.size vs →
    Heap.SameBut (s2.heap.push { cls:=.type "list",dict:=none,data:=.seq ([]:List Value).toArray }).objs.size s'.heap h'→Inv X pins σ (upd H s2.heap.objs.size (.lst vs)) { s' with heap:=h' }:=by
   intro σ' H s' pins' vs h' I
   rw [← hX] at I
   exact comp_back I2 f2 I
  have Dex:s2.heap.objs.size∈X'.ex∨X'.s₀.heap.objs.size≤s2.heap.objs.size:=.inl (by rw [eX]; exact List.mem_cons_self)
  have DnL:s2.heap.objs.size≠X'.env.locals:=by rw [ee]; exact Nat.ne_of_lt (by show _ < (s2.heap.push _).objs.size; rw [hsz]; exact Nat.lt_succ_self _)
  have DnC:∀ y c,X'.env.cells.lookup y=some c→c≠s2.heap.objs.size:=fun y c h=>by
   rw [ee] at h
   rcases hcl y c h with ⟨_,w⟩ | ⟨_,w,_⟩
   ·exact Nat.ne_of_lt (cellLt y c w)
   ·exact Nat.ne_of_gt (by omega)
  have DnF:s2.heap.objs.size ∉ X'.fs:=fun z=>by
   rw [← hX] at z
   obtain ⟨_,ob,e,_⟩:=I2.stack.mem (show s2.heap.objs.size∈frs X.stack from z)
   exact Nat.lt_irrefl _ (Heap.lt_size e)
  have Dfp:s2.heap.objs.size ∉ fp:=fun hb=>by
   obtain ⟨ob,e,_⟩:=Tn.obj 0 s2.heap st2 _ hb
   exact Nat.lt_irrefl _ (Heap.lt_size e)
  have pn0:X'.pn=[]:=by rw [← hX]; rfl
  rw [← ee]
  refine comp_loopT (fun n s=>∃ i vs H σ0,Inv X' [] σ0 H s∧tn i s.heap∧(∀ b∈fp,H b=none)∧H s2.heap.objs.size=none∧listAt s.heap s2.heap.objs.size vs∧W i n vs σ0 H) ?_ m0
   ⟨0,[],H2,_,I0,st1,fun b hb=>(f2 b hb).1,I2.hok.fresh (Nat.le_refl _),hD0,w0⟩
  rintro n s ⟨i,vs,H,σ0,I,st,hf,hDn,⟨its,k,rv,eD⟩,w1⟩
  have pinned:Inv X' [(s2.heap.objs.size,({ cls:=.type "list",data:=.seq its.toArray k }:Obj))] σ0 H s:=I.pins_of fun p hp=>by
   obtain rfl:=List.mem_singleton.mp hp
   exact ⟨eD,hDn,DnL,DnF,fun v z=>by cases z⟩
  have fpp:∀ p∈[(s2.heap.objs.size,({ cls:=.type "list",data:=.seq its.toArray k }:Obj))],p.1 ∉ fp:=fun p hp=>by
   obtain rfl:=List.mem_singleton.mp hp
   exact Dfp
  rcases turn i n vs σ0 H w1 with ⟨hz,stop,fn⟩ | ⟨go,hz,step⟩
  ·have dn:=Tn.done X' eP ew eK ec i _ s _ H (notedBy (model X.prog X.w) X.A X'.env fun e s'=>RR (.ref s2.heap.objs.size) (s2.heap.push { cls:=.type "list",dict:=none,data:=.seq ([]:List Value).toArray }).objs.size (.error e) s') pinned (fpF hf fpp) st stop
   rw [eA] at dn
   refine thn dn fun r s1 ⟨hr,J1⟩=>?_
   subst hr
   have pD:=J1.pin (s2.heap.objs.size,({ cls:=.type "list",data:=.seq its.toArray k }:Obj)) (by rw [pn0]; simp)
   obtain ⟨mC,hnC,_⟩:=J1.loc
   rw [ee] at hnC
   have fC:=J1.free
   rw [ee] at fC
   refine fin _ vs H s1 mC (by rw [hsz]; exact Nat.lt_succ_self _) fC hnC hDn fn fun h' hs=>back J1 hDn hz ⟨its,k,rv,pD.1⟩ hs
  ·have im:=Tn.item X' eP ew eK ec i _ s _ H (notedBy (model X.prog X.w) X.A X'.env fun e s'=>RR (.ref s2.heap.objs.size) (s2.heap.push { cls:=.type "list",dict:=none,data:=.seq ([]:List Value).toArray }).objs.size (.error e) s') pinned (fpF hf fpp) st go
   rw [eA] at im
   refine thn im fun r s1 ⟨u,hr,h1⟩=>?_
   subst hr
   dsimp only
   refine thn h1 fun _ s3 ⟨y,H3,I3,r3,y3,st3,fr3⟩=>?_
   have I3':=I3.pinned (fpF fr3 fpp) (Tn.obj _ _ st3)
   have g:=hG' _ s3 _ H3 y u _ I3' r3 (step y H3 y3)
   rw [eP,ew,eA,ex] at g
   refine wpAny_mono g (fun _ s4 ⟨σ4,H4,I4,q4⟩=>?_) fun _ _ z=>z.elim
   have t:=hT' _ s4 _ H4 _ I4 q4
   rw [eP,ew,eA,ex] at t
   have tk':∀ {pl:List (Addr×Obj)} {σ':St} {H':Hp} {s':Shared},Inv X' (pl ++ pinsAt fp s3.heap) σ' H' s'→tn (i + 1) s'.heap∧∀ b∈fp,H' b=none:=fun {pl σ' H' s'} J=>by
    refine ⟨Tn.keep _ _ _ st3 fun b hb o e=>(J.pin (b,o) (List.mem_append_right _ (List.mem_append_right _ (mem_pinsAt hb e)))).1,fun b hb=>?_⟩
    obtain ⟨o,e,d⟩:=Tn.obj _ _ st3 b hb
    exact (J.pin (b,o) (List.mem_append_right _ (List.mem_append_right _ (mem_pinsAt hb e)))).2.1
   refine wpAny_mono t (fun b s5 ⟨H5,I5,q5⟩=>?_) fun _ _ z=>z.elim
   cases b with
   | false =>
    rw [if_neg Bool.false_ne_true] at q5 ⊢
    obtain ⟨m',hm,w5⟩:=q5
    obtain ⟨st5,fr5⟩:=tk' I5
    have pD:=I5.pin (s2.heap.objs.size,({ cls:=.type "list",data:=.seq its.toArray k }:Obj)) (by simp)
    exact ⟨m',hm,i + 1,vs,H5,σ4,I5.pins_of (fun p hp=>nomatch hp),st5,fr5,pD.2.1,⟨its,k,rv,pD.1⟩,w5⟩
   | true =>
    rw [if_pos rfl] at q5 ⊢
    have ev:=hE' _ s5 _ H5 _ I5 q5
    rw [eP,ew,eA,ex] at ev
    refine wpAny_mono ev (fun z s6 ⟨v,H6,I6,r6,q6⟩=>?_) fun _ _ z=>z.elim
    obtain ⟨m',hm,w6⟩:=q6
    obtain ⟨st6,fr6⟩:=tk' I6
    have pD:=I6.pin (s2.heap.objs.size,({ cls:=.type "list",data:=.seq its.toArray k }:Obj)) (by simp)
    have hlen:=rv.length
    refine call_meets F.slot_list_append ⟨_,pD.1,rfl⟩ F.entry_list_append (F.args_list_append_2 _ _) (PySem.list_append s2.heap.objs.size its.toArray k z (by rw [List.size_toArray]; omega)) ⟨pD.1,?_⟩
    have q:=PySem.IsL.update pD.1 (fun a=>a.push z)
    dsimp only at q
    rw [show its.toArray.push z=(its ++ [z]).toArray by simp] at q
    have kk:∀ b o,b≠s2.heap.objs.size→s6.heap.get? b=some o→(s6.heap.update s2.heap.objs.size (Obj.mapSeq fun a=>a.push z)).get? b=some o:=fun b o hb e=>(Heap.get?_update_other s6.heap _ (Ne.symm hb)).trans e
    have I7:Inv X' [] σ4 H6 { s6 with heap:=s6.heap.update s2.heap.objs.size (Obj.mapSeq fun a=>a.push z),toks:=s6.toks }:=(I6.pins_of (pins':=[]) (fun p hp=>nomatch hp)).turned kk pD.2.1 DnL Dex DnC (fun p hp=>by
     rw [pn0] at hp; exact absurd hp (by simp))
    refine ⟨m',hm,i + 1,vs ++ [v],H6,σ4,I7,Tn.keep _ _ _ st6 (fun b hb o e=>kk b o (fun zz=>Dfp (zz ▸ hb)) e),fr6,pD.2.1,⟨its ++ [z],_,rv.append (.cons r6 .nil),q⟩,w6⟩
 exact codeAny_compStart_list loop (Tn.self _ 0 _ _ _ st1 loop)
end
end L2
namespace L2
open PySem PySem.Spec PyProof.Rows
section
variable {X:Cx} {elt iter tg:Expr} {xs:List Str} {gt:TG} {ifs:List Expr} {scope:Scope} {pos:Pos} {Nc:List Str} {cap:List Nat} {tt:TT} {te:TE} {wi:TI}
theorem comp_clos {pins:List (Addr×Obj)} {s:Shared} {σ:St} {H:Hp} (T:CompTxt X xs scope Nc cap) (I:Inv X pins σ H s):∃ cl,closureFor scope X.env=pure cl∧(∀ y c,cl.lookup y=some c→X.env.cells.lookup y=some c)∧∀ y∈scope.names,y.2 = .free→(cl.lookup y.1).isSome=true :=
 closureFor_some fun y hy hf=>I.ok.has y.1 (T.free y hy hf)
theorem pe_comp (T:CompTxt X xs scope Nc cap) (hi:PI X tg iter wi) (hG:∀ cl C s H ex,PG (compX X Nc scope cl C s H ex) tg gt) (hT:∀ cl C s H ex,PIf (compX X Nc scope cl C s H ex) ifs tt) (hE:∀ cl C s H ex,PE (compX X Nc scope cl C s H ex) elt te)
  (hs:∀ v,foldedSetIterable iter X.env v=pure v):PE X (.ListComp elt [⟨tg,iter,ifs,0⟩] scope pos) (tComp xs.length gt cap wi tt te):=by
 intro pins s σ H Q I h
 rw [eval_ListComp]
 obtain ⟨cl,e1,e2,e3⟩:=comp_clos T I
 refine wpAny_comprehension_free (use:=none) rfl hs e1 T.kind T.names (thn (hi pins s σ H _ I h) fun v s1 h1=>thn h1 fun itv s2 h2=>?_)
 obtain ⟨it,fp,tn,J,H2,rfl,I2,Tn,st2,f2,W,⟨m0,w0⟩,turn⟩:=h2
 refine comp_run (RR:=fun acc C=>compPost (model X.prog X.w) X.A X.xe none (EP X pins σ Q) acc C) T e2 e3 I2 st2 Tn f2 hG hT hE W w0 turn fun C vs H' s' m hC hHC hn hD fn back=>?_
 exact ⟨m,hn,fun h' hs'=>⟨.ref _,_,back h' hs',rfl,fn _ hD⟩⟩
theorem ps_setcomp {i:Nat} {t:Str} {pt pos2:Pos} (T:CompTxt X xs scope Nc cap) (hi:PI X tg iter wi) (hG:∀ cl C s H ex,PG (compX X Nc scope cl C s H ex) tg gt) (hT:∀ cl C s H ex,PIf (compX X Nc scope cl C s H ex) ifs tt) (hE:∀ cl C s H ex,PE (compX X Nc scope cl C s H ex) elt te)
  (hs:∀ v,foldedSetIterable iter X.env v=pure v) (hN:X.N.Nodup) (hti:X.N[i]? = some t) (htl:X.env.scope.names.lookup t=some .local)
  (hsw:swapsWith (.ListComp elt [⟨tg,iter,ifs,0⟩] scope pos) (some (.Name t pt)) pos2.line X.env=pure true) :
  PS X (.Assign [.Name t pt] (.ListComp elt [⟨tg,iter,ifs,0⟩] scope pos) pos2) (tAsg (tComp xs.length gt cap wi tt te) (gName i)):=by
 intro pins s σ H D I h
 rw [exec_Assign_Name_used _ _ _ _ hsw]
 obtain ⟨cl,e1,e2,e3⟩:=comp_clos T I
 refine wpAny_bind (wpAny_standAt (wpAny_bind ?_))
 show wpAny _ X.A (do let _ ← comprehension (.ListComp elt [⟨tg,iter,ifs,0⟩] scope pos) scope X.env _ (newList []) false (eval iter X.env) (some (assign (.Name t pt) X.env))) _ _ s
 refine wpAny_bind (wpAny_mono (wpAny_comprehension_free (use:=some (assign (.Name t pt) X.env)) (Q:=fun _ s'=>SP X pins D .next s') rfl hs e1 T.kind T.names
  (thn (hi pins s σ H _ I h) fun v s1 h1=>thn h1 fun itv s2 h2=>?_)) (fun _ s' q=>wpAny_pure (wpAny_pure q)) fun _ _ e=>e)
 obtain ⟨it,fp,tn,J,H2,rfl,I2,Tn,st2,f2,W,⟨m0,w0⟩,turn⟩:=h2
 refine comp_run (RR:=fun acc C=>compPost (model X.prog X.w) X.A X.xe (some (assign (.Name t pt) X.env)) (fun _ s'=>SP X pins D .next s') acc C) T e2 e3 I2 st2 Tn f2 hG hT hE W w0 turn fun C vs H' s' m hC hHC hn hD fn back=>?_
 have I3:Inv X pins σ (upd H' s2.heap.objs.size (.lst vs)) s':=back s'.heap (.refl ..)
 have hLC:X.env.locals≠C:=Nat.ne_of_lt (Nat.lt_trans I2.lt hC)
 have hDC:C≠s2.heap.objs.size:=Nat.ne_of_gt hC
 show wpAny _ X.A (assign (.Name t pt) X.env (.ref s2.heap.objs.size)) _ _ s'
 refine wpAny_assign_Name (store_ok2 I3 hN hti (.inl htl) (v:=.ref s2.heap.objs.size) rfl (fun s4 I4 ⟨a,sb,ha⟩=>?_) (.inr htl))
 have hCa:C≠a:=by
  rcases ha with rfl | ha
  ·exact Ne.symm hLC
  ·obtain ⟨v,q⟩:=I2.cell t a ha
   exact Nat.ne_of_gt (Nat.lt_trans q.lt hC)
 refine ⟨m,hn.sameBut sb hCa,fun h' sb'=>⟨_,_,I4.turned (t':=s4.toks) (it:=C) (fun b o hb e=>(sb'.2 b hb).trans e) (by rw [upd_ne hDC]; exact hHC) (Ne.symm hLC) (.inr ?_) (fun y c e=>?_) (fun p hp=>?_),fn _ hD⟩⟩
 ·exact Nat.le_trans I2.sz (Nat.le_of_lt hC)
 ·obtain ⟨v,q⟩:=I2.cell y c e
  exact Nat.ne_of_lt (Nat.lt_trans q.lt hC)
 ·exact Nat.ne_of_lt (Nat.lt_trans (Heap.lt_size (I2.pin p hp).1) hC)
end
end L2
end
section
set_option autoImplicit false
namespace DW
open PySem PySem.Spec PyProof.Rows L2
noncomputable def Its (z:Str):L2.It:=⟨fun i _=>i < z.cps.size,fun i H x H'=>H'=H∧∃ c,z.cps[i]? = some c∧x = .str ⟨#[c]⟩,fun i _=>z.cps.size≤i⟩
theorem turn_str {cb:Bool} (hcb:cb=true) {P:Program} {w:World} {K:PySem.W.Frag} {tg:Expr} (it:Addr) (z:Str) (t:Tok) (ty:String) (hty:ty = "str_ascii_iterator"∨ty = "str_iterator"):Turn cb P w K tg (Its z) [it] it (fun i h=>h.IsStrIter it ty z t i):=by
 have hn:["enumerate","zip","dict_itemiterator","dict_reverseitemiterator","odict_iterator","itertools.zip_longest","itertools.pairwise"].contains ty=false:=by
  rcases hty with rfl | rfl <;> decide
 have W:∀ A:Around,A.handled=none→Walks P w A it [it] [it] z.cps.size (SignAt z) (fun i h=>h.IsStrIter it ty z t i):=fun A hA=>by
  rcases hty with rfl | rfl
  ·exact Walks.strAscii hA it z t
  ·exact Walks.strWide hA it z t
 refine ⟨by simp,fun i h st b hb=>?_,fun i h h' st k=>?_,?_,?_,?_⟩
 ·obtain rfl:=List.mem_singleton.mp hb
  obtain ⟨o,e,_,d⟩:=st
  exact ⟨o,e,fun v q=>by rw [d] at q; cases q⟩
 ·obtain ⟨o,e,r⟩:=st
  exact ⟨o,k it (by simp) o e,r⟩
 ·intro X hP hw hK hc i pins s σ H E I hf st hg
  subst hP hw hK
  obtain ⟨f0,f1,f2,f3,f4,f5⟩:=hf it (by simp)
  refine (W X.A (I.ok.hd (hc.trans hcb))).item i s _ _ hg st fun v h' tk hv st' kk=>?_
  obtain ⟨c,u,e1,rfl⟩:=hv
  have I1:Inv X pins σ H { s with heap:=h',toks:=tk }:=I.turned (fun b o hb e=>kk b o (by simpa using hb) e) f0 f1 f3 f4 f5
  obtain ⟨o,e,c1,d1⟩:=id st'
  exact ⟨_,rfl,go_of (s:={ s with heap:=h',toks:=tk }) e c1 d1 hn ⟨.str ⟨#[c]⟩,H,I1,⟨u,rfl⟩,⟨rfl,c,e1,rfl⟩,st',fun b hb=>(hf b hb).1⟩⟩
 ·intro X hP hw hK hc i pins s σ H E I hf st hg
  subst hP hw hK
  obtain ⟨f0,f1,f2,f3,f4,f5⟩:=hf it (by simp)
  have hi:z.cps.size≤i:=hg
  rcases hty with rfl | rfl
  ·exact wpAny_pyNext_ascii_end (I.ok.hd (hc.trans hcb)) st (by simp [hi]) fun h' eb=>⟨rfl,I.turned (t':=s.toks) (fun b o hb e=>eb b o hb e) f0 f1 f3 f4 f5⟩
  ·exact wpAny_pyNext_wide_end (I.ok.hd (hc.trans hcb)) st (by simp [hi]) fun h' eb=>⟨rfl,I.turned (t':=s.toks) (fun b o hb e=>eb b o hb e) f0 f1 f3 f4 f5⟩
 ·intro A i s Q E st q
  rcases hty with rfl | rfl
  ·exact wpAny_pyIter_striter_ascii st q
  ·exact wpAny_pyIter_striter_wide st q
noncomputable def WalkOk (K:PySem.W.Frag) (J:L2.It) (ds:List D) (g:Mem→Prop) (H0:Hp) (θ0:List Addr) (μ0:Mem):Prop :=
 ds.length≤sizeLine∧∀ (i:Nat) (H:Hp) (θ:List Addr) (μ:Mem),WOk K H θ μ→Grow H0 θ0 μ0 H θ μ→g μ →
  (i < ds.length→J.go i H∧∀ x H',J.yld i H x H'→WOk K H' θ μ∧Grow H θ μ H' θ μ∧∃ d,ds[i]? = some d∧Rp K H' θ μ d x)∧(i=ds.length→J.stop i H)
noncomputable abbrev WI:=Rho→Mem→QI→Prop
noncomputable def LI (K:PySem.W.Frag) (w:WI):TI:=fun σ H R=>∃ ρ θ μ Qi,Sim K σ H ρ θ μ∧w ρ μ Qi ∧
 ∀ ds g (J:L2.It) H' θ' μ',WOk K H' θ' μ'→Grow H θ μ H' θ' μ'→WalkOk K J ds g H' θ' μ'→Qi ds g μ'→R J H'
section
variable {K:PySem.W.Frag} {H:Hp} {θ:List Addr} {μ:Mem} {ds:List D} {a:Addr} {xs:List V}
theorem walk_list (hl:ds.length≤sizeLine) (g:Mem→Prop) (h:∀ (H':Hp) (θ':List Addr) (μ':Mem),WOk K H' θ' μ'→Grow H θ μ H' θ' μ'→g μ'→∃ xs,SqL K H' a xs∧Rps K H' θ' μ' ds xs):WalkOk K (Itl K a) ds g H θ μ:=by
 refine ⟨hl,fun i H' θ' μ' w' gr hg=>?_⟩
 obtain ⟨xs,hx,rs⟩:=h H' θ' μ' w' gr hg
 refine ⟨fun hi=>?_,fun hi=>⟨xs,hx,by rw [hi,rs.length]; exact Nat.le_refl _⟩⟩
 obtain ⟨v,e1,e2⟩:=rs.get (i:=i) (List.getElem?_eq_getElem hi)
 refine ⟨⟨xs,v,hx,e1⟩,fun x H'' y=>?_⟩
 obtain ⟨rfl,y⟩:=y
 have:=y xs hx
 rw [e1] at this; cases this
 exact ⟨w',Grow.refl,_,List.getElem?_eq_getElem hi,e2⟩
theorem walk_tup (hl:ds.length≤sizeLine) (g:Mem→Prop) (h:∀ (H':Hp) (θ':List Addr) (μ':Mem),WOk K H' θ' μ'→Grow H θ μ H' θ' μ'→g μ'→∃ xs,SqT K H' a xs∧Rps K H' θ' μ' ds xs):WalkOk K (Itt K a) ds g H θ μ:=by
 refine ⟨hl,fun i H' θ' μ' w' gr hg=>?_⟩
 obtain ⟨xs,hx,rs⟩:=h H' θ' μ' w' gr hg
 refine ⟨fun hi=>?_,fun hi=>⟨xs,hx,by rw [hi,rs.length]; exact Nat.le_refl _⟩⟩
 obtain ⟨v,e1,e2⟩:=rs.get (i:=i) (List.getElem?_eq_getElem hi)
 refine ⟨⟨xs,v,hx,e1⟩,fun x H'' y=>?_⟩
 obtain ⟨rfl,y⟩:=y
 have:=y xs hx
 rw [e1] at this; cases this
 exact ⟨w',Grow.refl,_,List.getElem?_eq_getElem hi,e2⟩
theorem walk_range {lo:Int} {n:Nat} (hn:n≤sizeLine):WalkOk K (Itr lo n) (rangeL lo n) (fun _=>True) H θ μ:=by
 refine ⟨by simpa [rangeL] using hn,fun i H' θ' μ' w' gr _=>⟨fun hi=>?_,fun hi=>?_⟩⟩
 ·have hi':i < n:=by simpa [rangeL] using hi
  refine ⟨hi',fun x H'' y=>?_⟩
  obtain ⟨rfl,rfl⟩:=y
  exact ⟨w',Grow.refl,.int (lo + (i:Int)),by simp [rangeL,hi'],rp_int⟩
 ·have hi':i=n:=by simpa [rangeL] using hi
  show n≤i
  omega
theorem walk_str {x:List Nat} (hx:x.length≤sizeLine):WalkOk K (Its ⟨x.toArray⟩) (chars x) (fun _=>True) H θ μ:=by
 refine ⟨by simpa [chars] using hx,fun i H' θ' μ' w' gr _=>⟨fun hi=>?_,fun hi=>?_⟩⟩
 ·have hi':i < x.length:=by simpa [chars] using hi
  refine ⟨by show i < x.toArray.size; simpa using hi',fun y H'' q=>?_⟩
  obtain ⟨rfl,c,e1,rfl⟩:=q
  have e1':x[i]? = some c:=by simpa using e1
  exact ⟨w',Grow.refl,.str [c],by simp [chars,e1'],rp_str (x:=[c]) (by rw [sizeLine_eq]; simp)⟩
 ·have hi':i=x.length:=by simpa [chars] using hi
  show x.toArray.size≤i
  simp [hi']
end
noncomputable def Itd (a:Addr) (o:Obj) (kvs:List (Key×V)):L2.It :=
 ⟨fun i H=>H a=some (.frz o (.dK kvs))∧i < kvs.length,fun i H x H'=>H'=H∧∃ kv,kvs[i]? = some kv∧x=kV kv.1,fun i H=>H a=some (.frz o (.dK kvs))∧kvs.length≤i⟩
theorem kv_get {κ:Type}:∀ {kvs:List (κ×V)} {vs:List (κ×Value)} {i:Nat} {kv:κ×V},KV kvs vs→kvs[i]? = some kv→∃ u,vs[i]? = some (kv.1,u)
 | _,_,i,_,.nil,e=>by simp at e
 | _,_,0,_,.cons r _,e=>by simp at e; subst e; exact ⟨_,by rw [List.getElem?_cons_zero,r.1]⟩
 | _,_,i + 1,kv,.cons _ t,e=>by
  obtain ⟨u,h1⟩:=kv_get (i:=i) (kv:=kv) t (by simpa using e)
  exact ⟨u,by simpa using h1⟩
theorem dict_at {X:Cx} {pins:List (Addr×Obj)} {σ:L2.St} {H:Hp} {s:Shared} {a:Addr} {o:Obj} {kvs:List (Key×V)} {es:Array DictEntry} {ep:Nat} (I:Inv X pins σ H s) (e:H a=some (.frz o (.dK kvs))) (hd:o.data = .dict es ep) :
  ∃ vs,KV kvs vs∧s.heap.DictAt (mixKind X.prog X.w) a vs ep:=by
 obtain ⟨h1,_,_,vs,rel,o',es',ep',q1,q2,q3,q4⟩:=(show ObjOk X.prog X.w H s.heap a (.frz o (.dK kvs)) from I.hok a _ e)
 rw [h1] at q1; cases q1
 rw [hd] at q3; cases q3
 exact ⟨vs,rel,o,es,h1,q2,hd,q4⟩
theorem turn_dict {cb:Bool} (hcb:cb=true) {P:Program} {w:World} {K:PySem.W.Frag} {tg:Expr} (a it:Addr) (o:Obj) (kvs:List (Key×V)) (es:Array DictEntry) (ep:Nat) (hd:o.data = .dict es ep) :
  Turn cb P w K tg (Itd a o kvs) [it] it (fun i h=>h.IsKeyIter it a i kvs.length ep) where
 mem:=by simp
 obj:=fun i h st b hb=>by
  have e:b=it:=by simpa using hb
  subst e
  obtain ⟨o,e,c,d⟩:=st
  exact ⟨o,e,fun v z=>by rw [d] at z; cases z⟩
 keep:=fun i h h' st k=>by
  obtain ⟨o,e,c,d⟩:=st
  exact ⟨o,k it (by simp) o e,c,d⟩
 item:=by
  intro X hP hw hK hc i pins s σ H E I hf st hg
  subst hP hw hK
  obtain ⟨e,hi⟩:=hg
  obtain ⟨vs,rel,dat⟩:=dict_at I e hd
  obtain ⟨f0,f1,f2,f3,f4,f5⟩:=hf it (by simp)
  have hlen:=rel.length
  obtain ⟨u,hu⟩:=kv_get rel (List.getElem?_eq_getElem hi)
  refine wpAny_pyNext_dict_item (hlen ▸ st) dat hu fun key h' hk st' sb=>?_
  have I1:Inv X pins σ H { s with heap:=h' }:=I.turned (t':=s.toks) (fun b o hb e=>(sb.2 b hb).trans e) f0 f1 f3 f4 f5
  obtain ⟨o',e',c,d⟩:=id st'
  refine ⟨key,rfl,go_of (s:={ s with heap:=h' }) e' c d (by decide) ⟨kV (kvs[i]).1,H,I1,?_,⟨rfl,kvs[i],List.getElem?_eq_getElem hi,rfl⟩,hlen ▸ st',fun b hb=>(hf b hb).1⟩⟩
  rcases keyIs_shape hk with ⟨z,tt,e1,rfl⟩ | ⟨z,tt,e1,rfl⟩
  ·rw [e1]; exact ⟨tt,rfl⟩
  ·rw [e1]; exact ⟨tt,rfl⟩
 done:=by
  intro X hP hw hK hc i pins s σ H E I hf st hg
  subst hP hw hK
  obtain ⟨e,hi⟩:=hg
  obtain ⟨vs,rel,dat⟩:=dict_at I e hd
  obtain ⟨f0,f1,f2,f3,f4,f5⟩:=hf it (by simp)
  have hlen:=rel.length
  exact wpAny_pyNext_dict_end (I.ok.hd (hc.trans hcb)) (hlen ▸ st) dat (List.getElem?_eq_none (by omega)) fun h' eb=>⟨rfl,I.turned (t':=s.toks) (fun b o hb e=>eb b o hb e) f0 f1 f3 f4 f5⟩
 self:=fun _ _ _ _ _ st h=>wpAny_pyIter_keyiter st h
noncomputable def Itx (a:Addr) (o:Obj) (bs:List Addr):L2.It :=
 ⟨fun i H=>(∃ u,H a=some (.frz o u))∧i < bs.length,fun i H x H'=>H'=H∧∃ b,bs[i]? = some b∧x = .ref b,fun i H=>(∃ u,H a=some (.frz o u))∧bs.length≤i⟩
theorem turn_refs {cb:Bool} (hcb:cb=true) {P:Program} {w:World} {K:PySem.W.Frag} {tg:Expr} (a it:Addr) (o:Obj) (bs:List Addr) (es:Array DictEntry) (ep:Nat) (hd:o.data = .dict es ep) (hk:es.toList.map (·.key)=bs.map Value.ref) :
  Turn cb P w K tg (Itx a o bs) [it] it (fun i h=>h.IsKeyIter it a i es.size ep):=by
 have hsz:es.size=bs.length:=by have:=congrArg List.length hk; simpa using this
 refine ⟨by simp,fun i h st b hb=>?_,fun i h h' st k=>?_,?_,?_,fun _ _ _ _ _ st h=>wpAny_pyIter_keyiter st h⟩
 ·obtain rfl:=List.mem_singleton.mp hb
  obtain ⟨o,e,_,d⟩:=st
  exact ⟨o,e,fun v z=>by rw [d] at z; cases z⟩
 ·obtain ⟨o,e,c,d⟩:=st
  exact ⟨o,k it (by simp) o e,c,d⟩
 ·intro X hP hw hK hc i pins s σ H E I hf st hg
  subst hP hw hK
  obtain ⟨⟨u,e⟩,hi⟩:=hg
  obtain ⟨f0,f1,f2,f3,f4,f5⟩:=hf it (by simp)
  have ho:s.heap.get? a=some o:=(show ObjOk X.prog X.w H s.heap a (.frz o u) from I.hok a _ e).1
  have hi':i < es.size:=by omega
  have hkey:es[i].key = .ref bs[i]:=by
   have h1:(es.toList.map (·.key))[i]? = some es[i].key:=by simp [hi']
   rw [hk] at h1
   simp [hi] at h1
   exact h1.symm
  refine dit_item st ho hd hi' fun h' st' sb=>?_
  have I1:Inv X pins σ H { s with heap:=h' }:=I.turned (t':=s.toks) (fun b o hb e=>(sb.2 b hb).trans e) f0 f1 f3 f4 f5
  obtain ⟨o',e',c,d⟩:=id st'
  rw [hkey]
  exact ⟨_,rfl,go_of (s:={ s with heap:=h' }) e' c d (by decide) ⟨.ref bs[i],H,I1,rfl,⟨rfl,bs[i],List.getElem?_eq_getElem hi,rfl⟩,st',fun b hb=>(hf b hb).1⟩⟩
 ·intro X hP hw hK hc i pins s σ H E I hf st hg
  subst hP hw hK
  obtain ⟨⟨u,e⟩,hi⟩:=hg
  obtain ⟨f0,f1,f2,f3,f4,f5⟩:=hf it (by simp)
  have ho:s.heap.get? a=some o:=(show ObjOk X.prog X.w H s.heap a (.frz o u) from I.hok a _ e).1
  exact dit_end (I.ok.hd (hc.trans hcb)) st ho hd (by omega) fun h' eb=>⟨rfl,I.turned (t':=s.toks) (fun b o hb e=>eb b o hb e) f0 f1 f3 f4 f5⟩
section
variable {X:Cx} {tg:Expr}
theorem pi_seqD {l:Expr} {wl:WE} (hcl:X.calm=true) (hl:PE X l (LE X.K wl)):PI X tg l (LI X.K fun ρ μ Q=>wl ρ μ fun d μ1=>wSeq d μ1 Q):=by
 intro pins s σ H R I h
 have big:∀ (x:V) (H1:Hp) (s1:Shared),Inv X pins σ H1 s1→True:=fun _ _ _ _=>trivial
 obtain ⟨ρ,θ,μ,Qi,sm,h,f⟩:=h
 refine thn (hl pins s σ H (fun x H1=>∃ d θ1 μ1,WOk X.K H1 θ1 μ1∧Grow H θ μ H1 θ1 μ1∧Rp X.K H1 θ1 μ1 d x∧wSeq d μ1 Qi) I ⟨ρ,θ,μ,_,sm,h,fun d v H1 θ1 μ1 w1 g1 r1 h1=>⟨d,θ1,μ1,w1,g1,r1,h1⟩⟩) fun v s1 ⟨x,H1,I1,r1,d,θ1,μ1,w1,g1,rd,hq⟩=>?_
 have pe:∀ (R':L2.It→Hp→Prop),((∃ a,x = .ref a∧(∃ xs,SqL X.K H1 a xs)∧R' (Itl X.K a) H1)∨(∃ a,x = .ref a∧(∃ xs,SqT X.K H1 a xs)∧R' (Itt X.K a) H1)∨∃ z,x = .str z∧R' (Its z) H1) →
   wpAny (model X.prog X.w) X.A (pyIter v) (PIE X pins σ tg R') X.xe s1:=fun R' q1=>by
  rcases q1 with ⟨a,rfl,⟨xs,hq⟩,q⟩ | ⟨a,rfl,⟨xs,hq⟩,q⟩ | ⟨z,rfl,q⟩
  ·cases r1
   obtain ⟨its,rv,p,hz⟩:=I1.list hq
   refine wpAny_pyIter_list p.isList ?_
   refine ⟨s1.heap.objs.size,[s1.heap.objs.size],_,_,H1,rfl,I1.kept (t':=s1.toks) fun b o e=>Heap.get?_push_of_some _ e,turn_list hcl a _,⟨_,Heap.get?_push_size _ rfl,rfl,rfl⟩,fun b hb=>?_,q⟩
   obtain rfl:=List.mem_singleton.mp hb
   exact I1.fpOk (Nat.le_refl _) (I1.hok.fresh (Nat.le_refl _))
  ·cases r1
   obtain ⟨its,rv,p,hz⟩:=I1.tuple hq
   refine wpAny_pyIter_tuple (show s1.heap.IsTuple a its.toArray from p) ?_
   refine ⟨s1.heap.objs.size,[s1.heap.objs.size],_,_,H1,rfl,I1.kept (t':=s1.toks) fun b o e=>Heap.get?_push_of_some _ e,turn_tuple hcl a _,⟨_,Heap.get?_push_size _ rfl,rfl,rfl⟩,fun b hb=>?_,q⟩
   obtain rfl:=List.mem_singleton.mp hb
   exact I1.fpOk (Nat.le_refl _) (I1.hok.fresh (Nat.le_refl _))
  ·obtain ⟨t,rfl⟩:=r1
   have fp:∀ b∈[s1.heap.objs.size],FpOk X pins H1 b:=fun b hb=>by
    obtain rfl:=List.mem_singleton.mp hb
    exact I1.fpOk (Nat.le_refl _) (I1.hok.fresh (Nat.le_refl _))
   cases ha:z.cps.all (· < 128) with
   | false =>
    refine wpAny_pyIter_wide ha ?_
    exact ⟨s1.heap.objs.size,[s1.heap.objs.size],_,_,H1,rfl,I1.kept (t':=s1.toks) fun b o e=>Heap.get?_push_of_some _ e,turn_str hcl _ z t _ (.inr rfl),⟨_,Heap.get?_push_size _ rfl,rfl,rfl⟩,fp,q⟩
   | true =>
    refine wpAny_pyIter_ascii ha ?_
    exact ⟨s1.heap.objs.size,[s1.heap.objs.size],_,_,H1,rfl,I1.kept (t':=s1.toks) fun b o e=>Heap.get?_push_of_some _ e,turn_str hcl _ z t _ (.inl rfl),⟨_,Heap.get?_push_size _ rfl,rfl,rfl⟩,fp,q⟩
 unfold wSeq at hq
 split at hq
 ·rename_i ds
  obtain ⟨a,xs,rfl,h1,nl,rs⟩:=inv_lst rd
  have hz:ds.length≤sizeLine:=by obtain ⟨_,_,_,hz⟩:=I1.list (SqL.of h1); rw [rs.length]; exact hz
  exact pe R (.inl ⟨a,rfl,⟨xs,.of h1⟩,f ds _ _ H1 θ1 μ1 w1 g1 (walk_list hz _ fun H' θ' μ' w' gr _=>⟨xs,.of (gr.keep a _ h1 nl).1,gr.reps rs⟩) hq⟩)
 ·rename_i ds
  obtain ⟨a,xs,rfl,h1,nl,rs⟩:=inv_tup rd
  have hz:ds.length≤sizeLine:=by obtain ⟨_,_,_,hz⟩:=I1.tuple (SqT.of h1); rw [rs.length]; exact hz
  exact pe R (.inr (.inl ⟨a,rfl,⟨xs,.of h1⟩,f ds _ _ H1 θ1 μ1 w1 g1 (walk_tup hz _ fun H' θ' μ' w' gr _=>⟨xs,.of (gr.keep a _ h1 nl).1,gr.reps rs⟩) hq⟩))
 ·rename_i ds
  obtain ⟨a,xs,rfl,h1,rs⟩:=inv_ro rd
  have hz:ds.length≤sizeLine:=by obtain ⟨_,_,_,hz⟩:=I1.list (SqL_ro h1); rw [rs.length]; exact hz
  refine pe R (.inl ⟨a,rfl,⟨xs,SqL_ro h1⟩,f ds _ _ H1 θ1 μ1 w1 g1 (walk_list hz _ fun H' θ' μ' w' gr _=>⟨xs,?_,gr.reps rs⟩) hq⟩)
  rcases h1 with ⟨o,h1,h2⟩ | h1
  ·exact .inl (.inr ⟨o,(gr.keep a _ h1 h2).1⟩)
  ·exact .inr h1
 ·rename_i z
  obtain ⟨rfl,hz⟩:=inv_str rd
  exact pe R (.inr (.inr ⟨_,rfl,f _ _ _ H1 θ1 μ1 w1 g1 (walk_str hz) hq⟩))
 ·rename_i ks ds
  obtain ⟨is,rfl,hq⟩:=hq
  obtain ⟨a,o,kvs,rfl,h1,nl,h2,h3⟩:=inv_fdc rd
  cases r1
  obtain ⟨q0,hz,hs,vs,rel,o',es,ep,q1,q2,q3,q4⟩:=(show ObjOk X.prog X.w H1 s1.heap a (.frz o (.dK kvs)) from I1.hok a _ h1)
  rw [q0] at q1; cases q1
  have hlen:=rel.length
  have hli:kvs.length=is.length:=by simpa using congrArg List.length h2
  refine wpAny_pyIter_dict hs (⟨o,es,q0,q2,q3,q4⟩:s1.heap.DictAt (mixKind X.prog X.w) a vs ep) ?_
  refine ⟨s1.heap.objs.size,[s1.heap.objs.size],_,_,H1,rfl,I1.kept (t':=s1.toks) fun b o e=>Heap.get?_push_of_some _ e,turn_dict hcl a _ o kvs es ep q3,⟨_,Heap.get?_push_size _ rfl,rfl,by rw [hlen]; rfl⟩,fun b hb=>?_,f (is.map .int) (fun _=>True) (Itd a o kvs) H1 θ1 μ1 w1 g1 ⟨by simpa [← hli] using hz,fun i H' θ' μ' w' gr _=>⟨fun hi=>⟨⟨(gr.keep a _ h1 nl).1,by simpa [hli] using hi⟩,fun y H'' q=>?_⟩,fun hi=>⟨(gr.keep a _ h1 nl).1,by simp at hi; omega⟩⟩⟩ hq⟩
  ·obtain rfl:=List.mem_singleton.mp hb
   exact I1.fpOk (Nat.le_refl _) (I1.hok.fresh (Nat.le_refl _))
  ·obtain ⟨rfl,kv,e1,rfl⟩:=q
   have hi':i < is.length:=by simpa using hi
   refine ⟨w',Grow.refl,.int is[i],by simp [hi'],?_⟩
   have e2:(kvs.map (·.1))[i]? = some kv.1:=by rw [List.getElem?_map,e1]; rfl
   rw [h2] at e2
   simp [hi',keyOf] at e2
   rw [← e2]
   exact rp_int
 ·rename_i n
  obtain ⟨a,rfl,ha⟩:=inv_loc rd
  split at hq
  ·rename_i ds hn
   obtain ⟨xs,h1,rs⟩:=w1.list hn ha
   have hz:ds.length≤sizeLine:=by obtain ⟨_,_,_,hz⟩:=I1.list (SqL.of h1); rw [rs.length]; exact hz
   refine pe R (.inl ⟨a,rfl,⟨xs,.of h1⟩,f ds _ _ H1 θ1 μ1 w1 g1 (walk_list hz _ fun H' θ' μ' w' gr hg=>?_) hq⟩)
   obtain ⟨ys,h2,rs2⟩:=w'.list hg (gr.pre n a ha)
   exact ⟨ys,.of h2,rs2⟩
  ·rename_i o ks ds hn
   obtain ⟨is,rfl,hq⟩:=hq
   cases r1
   obtain ⟨kvs,h1,h2,h3⟩:=w1.cell n _ a hn ha
   obtain ⟨q0,hz,hs,xs,rel,o',es,ep,q1,q2,q3,q4,q5⟩:=(show ObjOk X.prog X.w H1 s1.heap a (.frz o (.dT kvs)) from I1.hok a _ h1)
   rw [q0] at q1; cases q1
   have ev:es.toList.map (·.key)=(xs.map fun q=>q.2.1).map Value.ref:=by rw [q4,List.map_map,List.map_map]; rfl
   have lx:xs.length=is.length:=by
    have e1:=Paired.length rel
    have e2:=congrArg List.length h2
    simp at e2
    omega
   have hes:es.size=xs.length:=by have:=congrArg List.length ev; simpa using this
   refine dit_new hs q0 q2 q3 ?_
   refine ⟨s1.heap.objs.size,[s1.heap.objs.size],_,_,H1,rfl,I1.kept (t':=s1.toks) fun b o e=>Heap.get?_push_of_some _ e,turn_refs hcl a _ o (xs.map fun q=>q.2.1) es ep q3 ev,⟨_,Heap.get?_push_size _ rfl,rfl,rfl⟩,fun b hb=>?_,f (is.map tI) _ (Itx a o (xs.map fun q=>q.2.1)) H1 θ1 μ1 w1 g1 ⟨?_,fun i H' θ' μ' w' gr hg=>?_⟩ hq⟩
   ·obtain rfl:=List.mem_singleton.mp hb
    exact I1.fpOk (Nat.le_refl _) (I1.hok.fresh (Nat.le_refl _))
   ·have e1:=Paired.length rel
    simp; omega
   ·obtain ⟨kvs',h1',h2',h3'⟩:=w'.cell n _ a hg (gr.pre n a ha)
    have keep:∀ (j:Nat) (q:List Key×Addr×Value) (l:List Int),xs[j]? = some q→is[j]? = some l→H' q.2.1=some (.tup (l.map V.int)):=fun j q l e1 e2=>by
     have h5:=(keys_ti w1 rel h2).2 j q l e1 e2
     exact (gr.keep _ _ h5 (tup_nl w1 h5)).1
    have hH:∃ u,H' a=some (.frz o u):=⟨_,h1'⟩
    refine ⟨fun hi=>?_,fun hi=>⟨hH,by simp at hi; simp; omega⟩⟩
    have hi':i < is.length:=by simpa using hi
    have hix:i < xs.length:=by omega
    refine ⟨⟨hH,by simpa using hix⟩,fun y H'' q=>?_⟩
    obtain ⟨rfl,b,e1,rfl⟩:=q
    have hb:b=xs[i].2.1:=by simp [hix] at e1; exact e1.symm
    subst hb
    have h5:=keep i xs[i] is[i] (List.getElem?_eq_getElem hix) (List.getElem?_eq_getElem hi')
    refine ⟨w',Grow.refl,tI is[i],by simp [hi'],?_⟩
    unfold tI Rep
    exact ⟨_,_,rfl,h5,tup_nl w' h5,ints_reps _⟩
  ·exact hq.elim
 ·exact hq.elim
theorem pi_rng1D {a:Expr} {ws:WA} {y:Str} {p pos:Pos} (ey:y=Str.ofString "range") (hg:Gl X y) (hm:X.mg y=none) (ha:PA X [a] (LA X.K ws)) (hs:starEach [a] X.env=[(false,eval a X.env)]) :
  PI X tg (.Call (.Name y p) [a] [] pos) (LI X.K fun ρ μ Q=>ws ρ μ fun ds μ1=>wRng 1 ds μ1 Q):=by
 subst ey
 intro pins s σ H R I h
 refine pi_range1 (tg:=tg) hg hm ha hs pins s σ H R I ?_
 obtain ⟨ρ,θ,μ,Qi,sm,h,f⟩:=h
 refine ⟨ρ,θ,μ,_,sm,h,fun ds vs H1 θ1 μ1 w1 g1 r1 h1=>?_⟩
 have hl:lim=16777216:=rfl
 unfold wRng at h1
 split at h1
 ·rename_i j _
  obtain ⟨v,r,rfl,r2,r3⟩:=r1.cons_inv
  cases r3.nil_inv
  cases inv_int r2
  obtain ⟨k1,k2,k3⟩:=h1
  refine ⟨j,rfl,k2,by rw [hl] at k1; omega,f _ _ _ H1 θ1 μ1 w1 g1 (walk_range ?_) k3⟩
  rw [hl] at k1; rw [sizeLine_eq]; omega
 ·exact h1.elim
noncomputable def LG (K:PySem.W.Frag) (bnd:D→Rho→(Rho→Prop)→Prop):TG:=fun v σ H Q=>∃ d ρ θ μ k,Sim K σ H ρ θ μ∧Rp K H θ μ d v∧bnd d ρ k∧∀ σ' ρ',Sim K σ' H ρ' θ μ→k ρ'→Q σ' H
theorem PG.wk {t t':TG} (h:PG X tg t) (m:∀ v σ H Q,t' v σ H Q→t v σ H Q):PG X tg t':=fun pins s σ H v u Q I r hw=>h pins s σ H v u Q I r (m v σ H Q hw)
theorem pg_nameD {i:Nat} {x:Str} {pos:Pos} (hN:X.N.Nodup) (hi:X.N[i]? = some x) (hx:Loc X.env.scope x) (hf:X.fn x=true∨X.env.scope.names.lookup x=some .local):PG X (.Name x pos) (LG X.K (bindT [i] false)) :=
 PG.wk (pg_name hN hi hx hf) fun v σ H Q h=>by
  obtain ⟨d,ρ,θ,μ,k,sm,rd,hb,f⟩:=h
  exact f _ _ (sm.set rd i) hb
noncomputable def gNames:List Nat→TGs
 | []=>gNil
 | i :: is=>gCons (gName i) (gNames is)
theorem gNames_ok {K:PySem.W.Frag} {H:Hp} {θ:List Addr} {μ:Mem} {Q:L2.St→Hp→Prop}:∀ (is:List Nat) (ds:List D) (vs:List V) (σ:L2.St) (ρ:Rho),Sim K σ H ρ θ μ→Rps K H θ μ ds vs→ds.length=is.length →
  (∀ σ',Sim K σ' H ((is.zip ds).foldl (fun r p=>r.set p.1 (some p.2)) ρ) θ μ→Q σ' H)→gNames is vs σ H Q
 | [],ds,vs,σ,ρ,sm,rs,hl,f=>by
  have:ds=[]:=by simpa using hl
  subst this
  cases rs.nil_inv
  exact ⟨rfl,f σ (by simpa using sm)⟩
 | i :: is,ds,vs,σ,ρ,sm,rs,hl,f=>by
  cases ds with
  | nil=>simp at hl
  | cons d ds =>
   obtain ⟨v,r,rfl,r1,r2⟩:=rs.cons_inv
   exact ⟨v,r,rfl,gNames_ok is ds r (σ.set i (some v)) (ρ.set i (some d)) (sm.set r1 i) r2 (by simpa using hl) (by simpa using f)⟩
theorem pg_tupD {is:List Nat} {es:List Expr} {k:Nat} {pos:Pos} (hc:X.calm=true) (h:PGs X es (gNames is)) (hn:(assignEach es X.env).length=is.length) (hst:(assignEach es X.env).findIdx? (·.1)=none):PG X (.Tuple es k pos) (LG X.K (bindT is true)) :=
 PG.wk (pg_tup hc h hn hst) fun v σ H Q q=>by
  obtain ⟨d,ρ,θ,μ,k,sm,rd,hb,f⟩:=q
  unfold bindT at hb
  split at hb
  ·rename_i h2; cases h2
  ·split at hb
   ·rename_i ds
    obtain ⟨a,xs,rfl,h1,_,rs⟩:=inv_tup rd
    exact ⟨a,xs,rfl,.of h1,by rw [← rs.length]; exact hb.1,gNames_ok is ds xs σ ρ sm rs hb.1 fun σ' s'=>f σ' _ s' hb.2⟩
   ·exact hb.elim
theorem ps_forD {EX:L2.St→XK} {iter:Expr} {body:List Stmt} {wi:WI} {bnd:D→Rho→(Rho→Prop)→Prop} {wb:WS} {pos:Pos} (hp:PassesOwn (model X.prog X.w) X.A X.env X.xe) (hc:X.calm=true) (hi:PI X tg iter (LI X.K wi)) (hg:PG X tg (LG X.K bnd)) (hb:PSs X body (LS X.K EX wb))
  (hs:∀ x,foldedSetIterable iter X.env x=pure x):PS X (.For tg iter body [] pos) (LS X.K EX fun Z ρ μ=>wi ρ μ fun ds g μ1=>wLoop bnd wb g Z ds ρ μ1):=by
 refine PS.wk (ps_for hp hc hi hg hb hs) fun E σ H h=>?_
 obtain ⟨ρ,θ,μ,Z,sm,h,f⟩:=h
 refine ⟨ρ,θ,μ,_,sm,h,fun ds g J H1 θ1 μ1 w1 g1 wk h1=>?_⟩
 have f1:=f.mono g1
 refine ⟨fun i m σ' H'=>m=ds.length - i∧i≤ds.length∧∃ ρ' θ' μ',Sim X.K σ' H' ρ' θ' μ'∧Grow H1 θ1 μ1 H' θ' μ'∧wLoop bnd wb g Z (ds.drop i) ρ' μ',⟨ds.length,by simp,Nat.zero_le _,ρ,θ1,μ1,sm.grow w1 g1,Grow.refl,by simpa using h1⟩,?_⟩
 rintro i m σ' H' ⟨rfl,hi',ρ',θ',μ',sm',gr,hl⟩
 by_cases hlt:i < ds.length
 ·right
  have e:ds.drop i=ds[i] :: ds.drop (i + 1):=List.drop_eq_getElem_cons hlt
  rw [e] at hl
  obtain ⟨hgμ,hl⟩:=hl
  obtain ⟨go,y⟩:=(wk.2 i H' θ' μ' sm'.wok gr hgμ).1 hlt
  refine ⟨go,fun σ2 H2=>∃ ρ2 θ2 μ2,Sim X.K σ2 H2 ρ2 θ2 μ2∧Grow H1 θ1 μ1 H2 θ2 μ2∧wLoop bnd wb g Z (ds.drop (i + 1)) ρ2 μ2,fun σ2 H2 ⟨ρ2,θ2,μ2,s2,g2,l2⟩=>⟨ds.length - (i + 1),by omega,rfl,hlt,ρ2,θ2,μ2,s2,g2,l2⟩,fun x H'' yx=>?_⟩
  obtain ⟨w2,g2,d,ed,rd⟩:=y x H'' yx
  rw [List.getElem?_eq_getElem hlt] at ed
  cases ed
  refine ⟨ds[i],ρ',θ',μ',_,sm'.grow w2 g2,rd,hl,fun σ3 ρ3 s3 q3=>⟨ρ3,θ',μ',_,s3,q3,?_⟩⟩
  have g3:=gr.trans g2
  have f3:=f1.mono g3
  exact ⟨fun σ4 H4 ρ4 θ4 μ4 s4 g4 z4=>⟨ρ4,θ4,μ4,s4,g3.trans g4,z4⟩,f3.rt,fun σ4 H4 ρ4 θ4 μ4 s4 g4 z4=>f3.nx σ4 H4 ρ4 θ4 μ4 s4 g4 z4,fun σ4 H4 ρ4 θ4 μ4 s4 g4 z4=>⟨ρ4,θ4,μ4,s4,g3.trans g4,z4⟩,f3.xc⟩
 ·left
  have e:i=ds.length:=by omega
  subst e
  rw [List.drop_length] at hl
  obtain ⟨hgμ,hl⟩:=hl
  exact ⟨(wk.2 _ H' θ' μ' sm'.wok gr hgμ).2 rfl,f1.nx σ' H' ρ' θ' μ' sm' gr hl⟩
theorem sim_cap {K:PySem.W.Frag} {H:Hp} {θ:List Addr} {μ:Mem} {σ:L2.St} {ρ:Rho} {cap:List Nat} (n:Nat) (sm:Sim K σ H ρ θ μ):Sim K (List.replicate n none ++ capS cap σ) H (List.replicate n none ++ cap.map fun i=>(ρ[i]?).join) θ μ:=by
 refine ⟨sm.wok,by simp [capS],fun i e h=>?_⟩
 by_cases hi:i < n
 ·rw [List.getElem?_append_left (by simpa using hi),List.getElem?_replicate] at h
  split at h <;> cases h
 ·obtain ⟨j,rfl⟩:∃ j,i=n + j:=⟨i - n,by omega⟩
  rw [List.getElem?_append_right (by simp)] at h ⊢
  simp only [List.length_replicate,Nat.add_sub_cancel_left,List.getElem?_map] at h ⊢
  cases q:cap[j]? with
  | none=>rw [q] at h; cases h
  | some k =>
   rw [q] at h
   simp only [Option.map_some,Option.some.injEq] at h
   have hj:ρ[k]? = some (some e):=by
    cases z:ρ[k]? with
    | none=>rw [z] at h; cases h
    | some w=>rw [z] at h; simp only [Option.join_some] at h; rw [h]
   obtain ⟨w,e1,e2⟩:=sm.val k e hj
   refine ⟨w,?_,e2⟩
   simp only [capS,List.getElem?_map,q,Option.map_some,e1,Option.join_some]
theorem foldl_bind (caps:Rho):∀ (ds:List D) (pre ρs:Rho),ρs.length=ds.length→((List.range' pre.length ds.length).zip ds).foldl (fun r p=>r.set p.1 (some p.2)) (pre ++ ρs ++ caps)=pre ++ ds.map some ++ caps
 | [],pre,ρs,h=>by
  have:ρs=[]:=by simpa using h
  subst this; simp
 | d :: ds,pre,ρs,h=>by
  cases ρs with
  | nil=>simp at h
  | cons r ρs =>
   have ih:=foldl_bind caps ds (pre ++ [some d]) ρs (by simpa using h)
   simp only [List.length_append,List.length_cons,List.length_nil,Nat.zero_add] at ih
   simp only [List.length_cons,List.range'_succ,List.zip_cons_cons,List.foldl_cons]
   have e:(pre ++ r :: ρs ++ caps).set pre.length (some d)=pre ++ [some d] ++ ρs ++ caps:=by simp
   rw [e,ih]
   simp
theorem bind_CT {n:Nat} {tt:Bool} {d:D} {ρs caps:Rho} {k:Rho→Prop} (hn:tt=false→n=1) (hl:ρs.length=n) (h:bindC n tt d caps k):bindT (List.range n) tt d (ρs ++ caps) fun ρ'=>(∃ ρt:Rho,ρt.length=n∧ρ'=ρt ++ caps)∧k ρ':=by
 cases tt with
 | false =>
  cases hn rfl
  match ρs,hl with
  | [r],_=>exact ⟨⟨[some d],rfl,rfl⟩,h⟩
 | true =>
  cases d with
  | tup ds =>
   obtain ⟨h1,h2⟩:=(show ds.length=n∧k (ds.map some ++ caps) from h)
   show ds.length=(List.range n).length∧_
   have e:=foldl_bind caps ds [] ρs (by rw [hl,h1])
   simp only [List.length_nil,List.nil_append] at e
   rw [List.range_eq_range',← h1,e]
   refine ⟨by simp,⟨⟨ds.map some,by simp,rfl⟩,h2⟩⟩
  | _=>exact False.elim h
theorem le_comp {m:Bool} {n:Nat} {tt:Bool} {cap:List Nat} {wi:WI} {cw:WT} {ew:WE} {σ:L2.St} {H:Hp} {Q:VK} (hn:tt=false→n=1)
  (h:LE X.K (fun ρ μ Q=>wi ρ μ fun ds g μ1=>wComp (fun d k=>bindC n tt d (cap.map fun i=>(ρ[i]?).join) k) cw ew g ds [] μ1 fun vs μ2=>newL m vs μ2 Q) σ H Q):tComp n (LG X.K fun d r k=>bindT (List.range n) tt d r k) cap (LI X.K wi) (LT X.K cw) (LE X.K ew) σ H Q:=by
 obtain ⟨ρ,θ,μ,Qd,sm,h,f⟩:=h
 refine ⟨ρ,θ,μ,_,sm,h,fun ds g J H1 θ1 μ1 w1 g1 wk h1=>?_⟩
 have f1:=f.mono g1
 have sm1:=sm.grow w1 g1
 refine ⟨fun i k vs σc H'=>k=ds.length - i∧i≤ds.length∧vs.length≤i∧∃ acc θ' μ' ρs,ρs.length=n∧Sim X.K σc H' (ρs ++ cap.map fun i=>(ρ[i]?).join) θ' μ'∧Grow H1 θ1 μ1 H' θ' μ'∧Rps X.K H' θ' μ' acc vs∧wComp (fun d k=>bindC n tt d (cap.map fun i=>(ρ[i]?).join) k) cw ew g (ds.drop i) acc μ' fun vs μ2=>newL m vs μ2 Qd,
  ⟨ds.length,by simp,Nat.zero_le _,Nat.le_refl _,[],θ1,μ1,List.replicate n none,by simp,sim_cap n sm1,Grow.refl,Reps.nil,by simpa using h1⟩,?_⟩
 rintro i k vs σc H' ⟨rfl,hi,hv,acc,θ',μ',ρs,hρ,sc,gr,rs,hl⟩
 have w':=sc.wok
 have hz:=wk.1
 by_cases hlt:i < ds.length
 ·right
  have e:ds.drop i=ds[i] :: ds.drop (i + 1):=List.drop_eq_getElem_cons hlt
  rw [e] at hl
  obtain ⟨hgμ,hl⟩:=hl
  obtain ⟨go,y⟩:=(wk.2 i H' θ' μ' w' gr hgμ).1 hlt
  refine ⟨go,by omega,fun x H'' yx=>?_⟩
  obtain ⟨w2,g2,d,ed,rd⟩:=y x H'' yx
  rw [List.getElem?_eq_getElem hlt] at ed
  cases ed
  refine ⟨ds[i],_,θ',μ',_,sc.grow w2 g2,rd,bind_CT hn hρ hl,fun σ2 ρ2 s2 q2=>?_⟩
  obtain ⟨⟨ρt,ht,rfl⟩,q2⟩:=q2
  refine ⟨_,θ',μ',_,s2,q2,fun b H3 θ3 μ3 w3 g3 q3=>?_⟩
  have g23:=g2.trans g3
  cases b with
  | true =>
   rw [if_pos rfl] at q3
   dsimp only
   rw [if_pos rfl]
   refine ⟨_,θ3,μ3,_,s2.grow w3 g3,q3,fun d4 v4 H4 θ4 μ4 w4 g4 r4 q4=>?_⟩
   have g24:=g23.trans g4
   exact ⟨ds.length - (i + 1),by omega,rfl,hlt,by simp; omega,acc ++ [d4],θ4,μ4,ρt,ht,s2.grow w4 (g3.trans g4),gr.trans g24,(g24.reps rs).append (Reps.one r4),q4⟩
  | false =>
   rw [if_neg Bool.false_ne_true] at q3
   dsimp only
   rw [if_neg Bool.false_ne_true]
   exact ⟨ds.length - (i + 1),by omega,rfl,hlt,by omega,acc,θ3,μ3,ρt,ht,s2.grow w3 g3,gr.trans g23,g23.reps rs,q3⟩
 ·left
  have e:i=ds.length:=by omega
  subst e
  rw [List.drop_length] at hl
  obtain ⟨hgμ,hl⟩:=hl
  exact ⟨by omega,(wk.2 _ H' θ' μ' w' gr hgμ).2 rfl,fun p hp=>newL_ok w' (f1.mono gr) rs hl hp⟩
end
end DW
end
section
set_option autoImplicit false
set_option maxHeartbeats 2000000
namespace DW
open PySem PySem.Spec PyProof.Rows L2
section
variable {X:Cx}
end
end DW
end
section
set_option autoImplicit false
set_option maxHeartbeats 2000000
namespace DW
open PySem PySem.Spec PyProof.Rows L2
section
variable {prog:Program} {w:World} {A:Around} {E:Value→Shared→Prop} {s:Shared}
end
section
variable {X:Cx}
end
end DW
end
section
set_option autoImplicit false
namespace DW
open PySem PySem.Spec PyProof.Rows L2
section
variable {prog:Program} {w:World} {A:Around} {E:Value→Shared→Prop} {s:Shared}
theorem nextOf_tup {it t:Addr} {i:Nat} {items:Array Value} {x:Value} {Q:Value→Shared→Prop} (hit:s.heap.IsTupleIter it t i) (ht:s.heap.IsTuple t items) (hx:items[i]? = some x)
  (hQ:∀ h',h'.IsTupleIter it t (i + 1)→Heap.SameBut it s.heap h'→Q x { s with heap:=h' }):wpAny (model prog w) A (Builtin.SmallTypes.nextOf (.ref it)) Q E s:=by
 obtain ⟨o,ho,hc,hd⟩:=id hit
 obtain ⟨ol,hol,_,nl,hdl⟩:=ht
 unfold Builtin.SmallTypes.nextOf
 refine wpAny_bind (wpAny_callSpecial?_slot (name:=Str.ofString "__next__") hit.typeIs F.slot_tuple_iterator_next
  (wpAny_call_entry F.slot_tuple_iterator_next hit.typeIs F.entry_tuple_iterator_next ?_ (F.args_tuple_iterator_next_1 _)))
 show wpAny _ _ (field (.ref it) 0 >>= _) _ _ s
 refine wpAny_bind (wpAny_field ho hd (x:=.ref t) rfl ?_)
 show wpAny _ _ (if (Value.ref t == Value.none)=true then _ else _) _ _ s
 rw [if_neg (show ¬ ((Value.ref t == Value.none)=true) from Bool.false_ne_true)]
 show wpAny _ _ (field (.ref it) 1 >>= _) _ _ s
 refine wpAny_bind (wpAny_field ho hd (x:=.int i 0) rfl ?_)
 show wpAny _ _ (seqItems? (.ref t) >>= _) _ _ s
 refine wpAny_bind (wpAny_seqItems hol hdl ?_)
 simp only [Int.toNat_natCast,hx]
 refine wpAny_bind (wpAny_setField ho hd (by simp) (wpAny_pure ⟨x,rfl,wpAny_pure (hQ _ ?_ (Heap.SameBut.update ..))⟩))
 exact ⟨_,Heap.get?_update_self _ ho (Obj.isFreed_of_fields (Obj.data_mapFields hd _)),(Obj.cls_mapFields ..).trans hc,by rw [Obj.data_mapFields hd]; simp [rawInt]⟩
theorem nextOf_tup_end {it t:Addr} {i:Nat} {items:Array Value} {Q:Value→Shared→Prop} (hh:A.handled=none) (hit:s.heap.IsTupleIter it t i) (ht:s.heap.IsTuple t items) (hx:items[i]? = none)
  (hE:∀ h' e,Heap.ExtBut it s.heap h'→(∃ o,h'.get? e=some o∧o.cls = .type "StopIteration")→E (.ref e) { s with heap:=h' }):wpAny (model prog w) A (Builtin.SmallTypes.nextOf (.ref it)) Q E s:=by
 obtain ⟨o,ho,hc,hd⟩:=id hit
 obtain ⟨ol,hol,_,nl,hdl⟩:=ht
 unfold Builtin.SmallTypes.nextOf
 refine wpAny_bind (wpAny_callSpecial?_slot (name:=Str.ofString "__next__") hit.typeIs F.slot_tuple_iterator_next
  (wpAny_call_entry F.slot_tuple_iterator_next hit.typeIs F.entry_tuple_iterator_next ?_ (F.args_tuple_iterator_next_1 _)))
 show wpAny _ _ (field (.ref it) 0 >>= _) _ _ s
 refine wpAny_bind (wpAny_field ho hd (x:=.ref t) rfl ?_)
 show wpAny _ _ (if (Value.ref t == Value.none)=true then _ else _) _ _ s
 rw [if_neg (show ¬ ((Value.ref t == Value.none)=true) from Bool.false_ne_true)]
 show wpAny _ _ (field (.ref it) 1 >>= _) _ _ s
 refine wpAny_bind (wpAny_field ho hd (x:=.int i 0) rfl ?_)
 show wpAny _ _ (seqItems? (.ref t) >>= _) _ _ s
 refine wpAny_bind (wpAny_seqItems hol hdl ?_)
 simp only [Int.toNat_natCast,hx]
 refine wpAny_bind (wpAny_rule (wpAny_bind (wpAny_setField ho hd (by simp) ?_)))
 show wpAny _ _ (newExc (.type "StopIteration") [] >>= _) _ _ _
 refine wpAny_bind ?_
 simp only [newExc,newTuple]
 refine wpAny_bind (wpAny_newObj_type ?_ (by size_fits))
 refine wpAny_bind (m:=firstArgMember _ _) (wpAny_of_eq (a:=Value.none) (by first | rfl | (simp only [firstArgMember]; rfl)) ?_)
 refine wpAny_newObj_type ?_ (by size_fits)
 simp only [raiseNew]
 refine wpAny_bind (wpAny_handled ?_)
 first | rw [show A.in1.handled=none from hh] | rw [hh]
 refine wpAny_bind (wpAny_pure (wpAny_throw ?_))
 exact hE _ _ (((Heap.SameBut.update ..).extBut.push _).push _) ⟨_,Heap.get?_push_size _ rfl,rfl⟩
theorem zipT_item {z TI TO i1 i2 l1 l2:Addr} {k1 k2:Nat} {xs ys:Array Value} {x y a b:Value} {Q:Option Value→Shared→Prop} (D:ZipApart z TI TO i1 i2 l1 l2)
  (hz:IsZip s.heap z TI TO .none) (hTI:IsPair s.heap TI (.ref i1) (.ref i2)) (hTO:IsPair s.heap TO a b)
  (h1:s.heap.IsTupleIter i1 l1 k1) (h2:s.heap.IsListIter i2 l2 k2) (hl1:s.heap.IsTuple l1 xs) (hl2:s.heap.IsList l2 ys) (hx:xs[k1]? = some x) (hy:ys[k2]? = some y)
  (hQ:∀ h',IsZip h' z TI TO (rawInt s.heap.objs.size)→IsPair h' TO x y→h'.IsTupleIter i1 l1 (k1 + 1)→h'.IsListIter i2 l2 (k2 + 1)→IsPair h' s.heap.objs.size x y→h'.objs.size=s.heap.objs.size + 1 →
   (∀ c o,c≠z→c≠TO→c≠i1→c≠i2→s.heap.get? c=some o→h'.get? c=some o)→Q (some (.ref s.heap.objs.size)) { s with heap:=h' }) :
  wpAny (model prog w) A (pyNext (.ref z)) Q E s:=by
 have hT:s.TypeIs (.ref z) "zip":=⟨_,hz,rfl⟩
 unfold pyNext
 refine wpAny_bind (wpAny_attempt (wpAny_callSpecial?_slot (name:=Str.ofString "__next__") hT F.slot_zip_next (wpAny_call_entry F.slot_zip_next hT F.entry_zip_next ?_ (F.args_zip_next_1 _))))
 show wpAny _ _ (field (.ref z) 2 >>= _) _ _ _
 refine wpAny_bind (wpAny_field hz rfl (x:=.bool false) rfl ?_)
 show wpAny _ _ (field (.ref z) 3 >>= _) _ _ _
 refine wpAny_bind (wpAny_field hz rfl (x:=.ref TI) rfl ?_)
 refine wpAny_bind (wpAny_seqItems hTI rfl ?_)
 show wpAny _ _ (Builtin.SmallTypes.ownedTupleIsFree (.ref z) >>= _) _ _ _
 refine wpAny_bind ?_
 unfold Builtin.SmallTypes.ownedTupleIsFree
 refine wpAny_bind (wpAny_field hz rfl (x:=.none) rfl (wpAny_pure ?_))
 simp only [if_true]
 refine wpAny_bind (wpAny_rule ?_)
 refine wpAny_bind (wpAny_field hz rfl (x:=.ref TO) rfl ?_)
 refine wpAny_bind (wpAny_setField_rec hz (by simp) fun g1 z1 m1=>?_)
 replace z1:IsZip g1 z TI TO .ellipsis:=z1
 refine wpAny_bind ?_
 simp only [List.zipIdx_cons,List.zipIdx_nil,List.forIn_cons,List.forIn_nil]
 refine wpAny_bind (wpAny_bind (wpAny_onRaise ?_))
 show wpAny _ _ (Builtin.SmallTypes.nextOf (.ref i1) >>= _) _ _ _
 refine wpAny_bind (nextOf_tup (h1.extBut m1.extBut D.i1z) (hl1.extBut m1.extBut D.l1z) hx fun g2 j2 m2=>wpAny_pure ?_)
 have t2:IsPair g2 TO a b:=m2.extBut _ _ D.TOi1 (m1.extBut _ _ D.TOz hTO)
 refine wpAny_bind (wpAny_seqItems t2 rfl ?_)
 refine wpAny_bind (wpAny_updateSeq_pair t2 fun g3 t3 m3=>?_)
 replace t3:IsPair g3 TO x b:=t3
 refine wpAny_bind (wpAny_letGo (wpAny_pure ?_))
 refine wpAny_bind (wpAny_bind (wpAny_onRaise ?_))
 show wpAny _ _ (Builtin.SmallTypes.nextOf (.ref i2) >>= _) _ _ _
 refine wpAny_bind (wpAny_nextOf_list_item (((h2.extBut m1.extBut D.i2z).extBut m2.extBut D.i12.symm).extBut m3.extBut D.TOi2.symm)
  (((hl2.extBut m1.extBut D.l2z).extBut m2.extBut D.l2i1).extBut m3.extBut D.l2TO) hy fun g4 j4 m4=>wpAny_pure ?_)
 have t4:IsPair g4 TO x b:=m4.extBut _ _ D.TOi2 t3
 refine wpAny_bind (wpAny_seqItems t4 rfl ?_)
 refine wpAny_bind (wpAny_updateSeq_pair t4 fun g5 t5 m5=>?_)
 replace t5:IsPair g5 TO x y:=t5
 refine wpAny_bind (wpAny_letGo (wpAny_pure (wpAny_pure ?_)))
 refine wpAny_bind (wpAny_seqItems t5 rfl ?_)
 refine wpAny_bind (wpAny_newTuple ?_)
 have hsz:g5.objs.size=s.heap.objs.size:=by rw [m5.1,m4.1,m3.1,m2.1,m1.1]
 have z5:IsZip g5 z TI TO .ellipsis:=m5.extBut _ _ D.TOz.symm (m4.extBut _ _ D.i2z.symm (m3.extBut _ _ D.TOz.symm (m2.extBut _ _ D.i1z.symm z1)))
 have k5:∀ c o,c≠z→c≠TO→c≠i1→c≠i2→s.heap.get? c=some o→g5.get? c=some o:=fun c o c1 c2 c3 c4 e =>
  m5.extBut _ _ c2 (m4.extBut _ _ c4 (m3.extBut _ _ c2 (m2.extBut _ _ c3 (m1.extBut _ _ c1 e))))
 have j5:g5.IsTupleIter i1 l1 (k1 + 1):=((j2.extBut m3.extBut D.TOi1.symm).extBut m4.extBut D.i12).extBut m5.extBut D.TOi1.symm
 have j6:g5.IsListIter i2 l2 (k2 + 1):=j4.extBut m5.extBut D.TOi2.symm
 have lz:z < g5.objs.size:=Heap.lt_size z5
 show wpAny _ _ (Builtin.SmallTypes.ownedTupleHandOut (.ref z) (.ref g5.objs.size) >>= _) _ _ _
 refine wpAny_bind ?_
 unfold Builtin.SmallTypes.ownedTupleHandOut
 have z6:IsZip (g5.push { cls:=.type "tuple",data:=.seq #[x,y] }) z TI TO .ellipsis:=Heap.get?_push_of_some _ z5
 refine wpAny_bind (wpAny_setField_rec z6 (by simp) fun g7 z7 m7=>?_)
 replace z7:IsZip g7 z TI TO (rawInt g5.objs.size):=z7
 refine wpAny_setField_rec z7 (by simp) fun g8 z8 m8=>?_
 replace z8:IsZip g8 z TI TO (rawInt g5.objs.size):=z8
 have up:∀ c o,c≠z→g5.get? c=some o→g8.get? c=some o:=fun c o c1 e=>m8.extBut _ _ c1 (m7.extBut _ _ c1 (Heap.get?_push_of_some _ e))
 have t8:IsPair g8 g5.objs.size x y:=m8.extBut _ _ (Nat.ne_of_gt lz) (m7.extBut _ _ (Nat.ne_of_gt lz) (Heap.get?_push_size _ rfl))
 have s8:g8.objs.size=g5.objs.size + 1:=by rw [m8.1,m7.1,Heap.size_push]
 rw [hsz] at z8 t8 s8
 refine wpAny_pure ⟨_,rfl,wpAny_pure ?_⟩
 show Q (some (.ref g5.objs.size)) _
 rw [hsz]
 refine hQ g8 z8 (up _ _ D.TOz t5) ?_ (j6.at fun o e=>up _ o D.i2z e) t8 s8 fun c o c1 c2 c3 c4 e=>up c o c1 (k5 c o c1 c2 c3 c4 e)
 obtain ⟨o,e,r⟩:=j5
 exact ⟨o,up _ o D.i1z e,r⟩
theorem zipT_end {z TI TO i1 i2 l1 l2:Addr} {k1:Nat} {xs:Array Value} {a b:Value} {Q:Option Value→Shared→Prop} (hh:A.handled=none) (D:ZipApart z TI TO i1 i2 l1 l2)
  (hz:IsZip s.heap z TI TO .none) (hTI:IsPair s.heap TI (.ref i1) (.ref i2)) (hTO:IsPair s.heap TO a b) (h1:s.heap.IsTupleIter i1 l1 k1) (hl1:s.heap.IsTuple l1 xs) (hx:xs[k1]? = none)
  (hQ:∀ h',(∀ c o,c≠z→c≠TO→c≠i1→c≠i2→s.heap.get? c=some o→h'.get? c=some o)→Q none { s with heap:=h' }):wpAny (model prog w) A (pyNext (.ref z)) Q E s:=by
 have hT:s.TypeIs (.ref z) "zip":=⟨_,hz,rfl⟩
 unfold pyNext
 refine wpAny_bind (wpAny_attempt (wpAny_callSpecial?_slot (name:=Str.ofString "__next__") hT F.slot_zip_next (wpAny_call_entry F.slot_zip_next hT F.entry_zip_next ?_ (F.args_zip_next_1 _))))
 show wpAny _ _ (field (.ref z) 2 >>= _) _ _ _
 refine wpAny_bind (wpAny_field hz rfl (x:=.bool false) rfl ?_)
 show wpAny _ _ (field (.ref z) 3 >>= _) _ _ _
 refine wpAny_bind (wpAny_field hz rfl (x:=.ref TI) rfl ?_)
 refine wpAny_bind (wpAny_seqItems hTI rfl ?_)
 show wpAny _ _ (Builtin.SmallTypes.ownedTupleIsFree (.ref z) >>= _) _ _ _
 refine wpAny_bind ?_
 unfold Builtin.SmallTypes.ownedTupleIsFree
 refine wpAny_bind (wpAny_field hz rfl (x:=.none) rfl (wpAny_pure ?_))
 simp only [if_true]
 refine wpAny_bind (wpAny_rule ?_)
 refine wpAny_bind (wpAny_field hz rfl (x:=.ref TO) rfl ?_)
 refine wpAny_bind (wpAny_setField_rec hz (by simp) fun g1 z1 m1=>?_)
 replace z1:IsZip g1 z TI TO .ellipsis:=z1
 refine wpAny_bind ?_
 simp only [List.zipIdx_cons,List.zipIdx_nil,List.forIn_cons,List.forIn_nil]
 refine wpAny_bind (wpAny_bind (wpAny_onRaise ?_))
 show wpAny _ _ (Builtin.SmallTypes.nextOf (.ref i1) >>= _) _ _ _
 refine wpAny_bind (nextOf_tup_end hh (h1.extBut m1.extBut D.i1z) (hl1.extBut m1.extBut D.l1z) hx fun g2 e m2 he=>?_)
 obtain ⟨oe,hoe,hce⟩:=he
 have z2:IsZip g2 z TI TO .ellipsis:=m2 _ _ D.i1z.symm z1
 have hez:e≠z:=fun x=>by subst x; rw [z2] at hoe; cases hoe; simp at hce
 refine wpAny_setField_rec z2 (by simp) fun g3 _ m3=>?_
 refine wpAny_bind (wpAny_isInstance (T:="StopIteration") (b:=true) ⟨oe,m3.extBut _ _ hez hoe,hce⟩ isSubtype_stop ?_)
 exact wpAny_pure (hQ _ fun c o c1 _ c3 _ x=>m3.extBut _ _ c1 (m2 _ _ c3 (m1.extBut _ _ c1 x)))
end
noncomputable abbrev zt1 (h:Heap) (l1:Addr):Heap:=h.push { cls:=.type "tuple_iterator",data:=.fields #[.ref l1,.int 0 0] }
noncomputable abbrev zt2 (h:Heap) (l1 l2:Addr):Heap:=(zt1 h l1).push { cls:=.type "list_iterator",data:=.fields #[.ref l2,.int 0 0] }
noncomputable abbrev zt3 (h:Heap) (l1 l2:Addr):Heap:=(zt2 h l1 l2).push { cls:=.type "tuple",data:=.seq #[.ref h.objs.size,.ref (zt1 h l1).objs.size] }
noncomputable abbrev zt4 (h:Heap) (l1 l2:Addr):Heap:=(zt3 h l1 l2).push { cls:=.type "tuple",data:=.seq #[.none,.none] }
noncomputable abbrev zt5 (h:Heap) (l1 l2:Addr):Heap:=(zt4 h l1 l2).push { cls:=.type "zip",data:=.fields #[.none,.bool false,.bool false,.ref (zt2 h l1 l2).objs.size,.ref (zt3 h l1 l2).objs.size] }
theorem meets_zipT (l1 l2:Addr) (xs ys:Array Value) :
  Meets (Builtin.«zip.__new__» ⟨[.type "zip",.ref l1,.ref l2],[]⟩) (fun _ R s=>s.heap.IsTuple l1 xs∧s.heap.IsList l2 ys∧R (.ok (.ret (.ref (zt4 s.heap l1 l2).objs.size))) { s with heap:=zt5 s.heap l1 l2 }) :=
 .of_wp fun prog w A R s h=>by
  obtain ⟨hp,g,d,tk,os⟩:=s; obtain ⟨hl1,hl2,h⟩:=h
  have hsub:=sub_zip
  have hL1:Heap.IsTuple (Shared.heap ⟨hp,g,d,tk,os⟩) l1 xs:=hl1
  have hL2:Heap.IsList (Shared.heap ⟨hp.push { cls:=.type "tuple_iterator",data:=.fields #[.ref l1,.int 0 0] },g,d,tk,os⟩) l2 ys:=Heap.IsList.push hl2 _
  wp_walk using wpAny_pyIter_tuple hL1,wpAny_pyIter_list hL2
  exact ⟨_,rfl,h⟩
section
variable {prog:Program} {w:World} {A:Around} {E:Value→Shared→Prop} {s:Shared}
theorem call_zipT {l1 l2:Addr} {xs ys:Array Value} {Q:Value→Shared→Prop} (hl1:s.heap.IsTuple l1 xs) (hl2:s.heap.IsList l2 ys)
  (h:∀ h',IsZip h' (s.heap.objs.size + 4) (s.heap.objs.size + 2) (s.heap.objs.size + 3) .none→IsPair h' (s.heap.objs.size + 2) (.ref s.heap.objs.size) (.ref (s.heap.objs.size + 1)) →
   IsPair h' (s.heap.objs.size + 3) .none .none→h'.IsTupleIter s.heap.objs.size l1 0→h'.IsListIter (s.heap.objs.size + 1) l2 0→(∀ c o,s.heap.get? c=some o→h'.get? c=some o)→Q (.ref (s.heap.objs.size + 4)) { s with heap:=h' }) :
  wpAny (model prog w) A (call (.type "zip") [.ref l1,.ref l2]) Q E s:=by
 refine callType_new F.called_zip (by decide) (F.typeCall_zip_2 _ _) (F.newCall_zip_2 _ _) (fun obj=>F.args_object_init_3 obj _ _) F.entry_zip_new (meets_zipT l1 l2 xs ys) ⟨hl1,hl2,?_⟩
 have z1:(zt1 s.heap l1).objs.size=s.heap.objs.size + 1:=Heap.size_push ..
 have z2:(zt2 s.heap l1 l2).objs.size=s.heap.objs.size + 2:=by rw [Heap.size_push,z1]
 have z3:(zt3 s.heap l1 l2).objs.size=s.heap.objs.size + 3:=by rw [Heap.size_push,z2]
 have z4:(zt4 s.heap l1 l2).objs.size=s.heap.objs.size + 4:=by rw [Heap.size_push,z3]
 have g5:(zt5 s.heap l1 l2).get? (zt4 s.heap l1 l2).objs.size=some _:=Heap.get?_push_size _ rfl
 have g4:(zt5 s.heap l1 l2).get? (zt3 s.heap l1 l2).objs.size=some _:=Heap.get?_push_of_some _ (Heap.get?_push_size _ rfl)
 have g3:(zt5 s.heap l1 l2).get? (zt2 s.heap l1 l2).objs.size=some _:=Heap.get?_push_of_some _ (Heap.get?_push_of_some _ (Heap.get?_push_size _ rfl))
 have g2:(zt5 s.heap l1 l2).get? (zt1 s.heap l1).objs.size=some _:=Heap.get?_push_of_some _ (Heap.get?_push_of_some _ (Heap.get?_push_of_some _ (Heap.get?_push_size _ rfl)))
 have g1:(zt5 s.heap l1 l2).get? s.heap.objs.size=some _:=Heap.get?_push_of_some _ (Heap.get?_push_of_some _ (Heap.get?_push_of_some _ (Heap.get?_push_of_some _ (Heap.get?_push_size _ rfl))))
 show _∧_
 rw [z2,z3,z4] at g5
 rw [z1,z2] at g3
 rw [z3] at g4
 rw [z1] at g2
 rw [z4]
 exact ⟨⟨_,g5,rfl⟩,h _ g5 g3 g4 ⟨_,g1,rfl,rfl⟩ ⟨_,g2,rfl,rfl⟩ fun c o x =>
  Heap.get?_push_of_some _ (Heap.get?_push_of_some _ (Heap.get?_push_of_some _ (Heap.get?_push_of_some _ (Heap.get?_push_of_some _ x))))⟩
end
end DW
end
section
set_option autoImplicit false
set_option maxHeartbeats 2000000
namespace DW
open PySem PySem.Spec PyProof.Rows L2
theorem inv_pair {X:Cx} {pins:List (Addr×Obj)} {σ:L2.St} {H:Hp} {s:Shared} {h':Heap} {ch:List Addr} {p:Addr} {x y:V} {u v:Value} (I:Inv X pins σ H s) (hf:∀ b∈ch,FpOk X pins H b)
  (k:∀ b o,b ∉ ch→s.heap.get? b=some o→h'.get? b=some o) (hp:s.heap.objs.size≤p) (np:IsPair h' p u v) (ru:RelV x u) (rv:RelV y v):Inv X pins σ (upd H p (.tup [x,y])) { s with heap:=h' }:=by
 have hn:H p=none:=I.hok.fresh hp
 have up:∀ b u,H b=some u→(upd H p (.tup [x,y])) b=some u:=fun b u e=>by rw [upd_ne (ne_of_none e hn)]; exact e
 have nch:∀ b u,H b=some u→b ∉ ch:=fun b u e z=>by
  have:=(hf b z).1
  rw [e] at this; cases this
 refine I.step (t':=s.toks) (g':=s.gens) (d':=s.drawn) (ch:=ch) (fun b hb=>?_) (fun b o _ _ hc e _=>k b o hc e) (fun b o _ _ hc e _=>⟨o.slots,k b o hc e⟩) (fun b o hc e n=>?_) (fun b o hc e=>⟨o,k b o hc e⟩)
  (fun b xs e=>up b _ e) (fun b o u e=>up b _ e) (fun b ps e=>⟨#[],by rw [up b _ e]; simp⟩) (fun m hm=>?_) (fun b u e=>?_) I.bare
 ·obtain ⟨_,f1,_,f3,f4,f5⟩:=hf b hb
  exact ⟨f3,f1,f4,f5⟩
 ·rw [upd_ne (Nat.ne_of_lt (Nat.lt_of_lt_of_le (Heap.lt_size e) hp))]; exact n
 ·obtain ⟨o,es,ep,ho,r⟩:=hm
  exact ⟨o,es,ep,k _ o (fun z=>(hf _ z).2.1 rfl) ho,r⟩
 ·by_cases hb:b=p
  ·subst hb
   rw [upd_same] at e; cases e
   exact ⟨by rw [sizeLine_eq]; simp,[u,v],.cons ru (.cons rv .nil),⟨_,np,rfl,_,rfl,rfl⟩⟩
  ·rw [upd_ne hb] at e
   refine (I.hok b u e).stay (fun c w hc q=>k c w ?_ q) (fun c q=>up c _ q) fun c xs q=>up c _ q
   rcases hc with z | z
   ·rw [z]; exact nch b u e
   ·exact nch c _ z
noncomputable def Itz (K : PySem.W.Frag) (a b : Addr) : L2.It :=
  ⟨fun i H => ∃ xs ys x y, SqL K H a xs ∧ SqL K H b ys ∧ xs[i]? = some x ∧ ys[i]? = some y,
   fun i H v H' => ∃ p x y, H p = none ∧ v = .ref p ∧ H' = upd H p (.tup [x, y]) ∧ (∀ xs, SqL K H a xs → xs[i]? = some x) ∧ ∀ ys, SqL K H b ys → ys[i]? = some y,
   fun i H => ∃ xs ys, SqL K H a xs ∧ SqL K H b ys ∧ (xs.length ≤ i ∨ ys.length ≤ i)⟩
theorem turn_zip {cb:Bool} (hcb:cb=true) {P:Program} {w:World} {K:PySem.W.Frag} {es:List Expr} {k:Nat} {pos:Pos} (a b z TI TO i1 i2:Addr) (D:ZipApart z TI TO i1 i2 a b) :
  Turn cb P w K (.Tuple es k pos) (Itz K a b) [z,TI,TO,i1,i2] z (fun i h=>IsZip h z TI TO .none∧IsPair h TI (.ref i1) (.ref i2)∧(∃ c d,IsPair h TO c d)∧h.IsListIter i1 a i∧h.IsListIter i2 b i) where
 mem:=by simp
 obj:=fun i h st c hc=>by
  obtain ⟨hz,hTI,⟨_,_,hTO⟩,⟨o1,e1,_,d1⟩,⟨o2,e2,_,d2⟩⟩:=st
  simp only [List.mem_cons,List.not_mem_nil,or_false] at hc
  rcases hc with rfl | rfl | rfl | rfl | rfl
  ·exact ⟨_,hz,fun v q=>by cases q⟩
  ·exact ⟨_,hTI,fun v q=>by cases q⟩
  ·exact ⟨_,hTO,fun v q=>by cases q⟩
  ·exact ⟨_,e1,fun v q=>by rw [d1] at q; cases q⟩
  ·exact ⟨_,e2,fun v q=>by rw [d2] at q; cases q⟩
 keep:=fun i h h' st kk=>by
  obtain ⟨hz,hTI,⟨c,d,hTO⟩,h1,h2⟩:=st
  exact ⟨kk z (by simp) _ hz,kk TI (by simp) _ hTI,⟨c,d,kk TO (by simp) _ hTO⟩,h1.at fun o e=>kk i1 (by simp) o e,h2.at fun o e=>kk i2 (by simp) o e⟩
 item:=by
  intro X hP hw hK hc i pins s σ H E I hf st hg
  subst hP hw hK
  obtain ⟨xs,ys,x,y,hq1,hq2,hx,hy⟩:=hg
  obtain ⟨hz,hTI,⟨c,d,hTO⟩,h1,h2⟩:=st
  obtain ⟨its1,rv1,p1,_⟩:=I.list hq1
  obtain ⟨its2,rv2,p2,_⟩:=I.list hq2
  obtain ⟨u1,hu1,ru1⟩:=rv1.get hx
  obtain ⟨u2,hu2,ru2⟩:=rv2.get hy
  refine wpAny_pyNext_zip_item D hz hTI hTO h1 h2 p1.isList p2.isList (x:=u1) (y:=u2) (by simpa using hu1) (by simpa using hu2) fun h' a1 a2 a3 a4 a5 a6 a7=>⟨_,rfl,?_⟩
  refine wpAny_letOwnedTupleGo_zip (s:={ s with heap:=h' }) a1 fun h2' hz2 hs2=>?_
  have hzl:z < s.heap.objs.size:=Heap.lt_size hz
  have nz:s.heap.objs.size≠z:=Nat.ne_of_gt hzl
  have I2:Inv X pins σ (upd H s.heap.objs.size (.tup [x,y])) { s with heap:=h2' }:=inv_pair (ch:=[z,TO,i1,i2]) I (fun q hq=>hf q (by simp only [List.mem_cons,List.not_mem_nil,or_false] at hq ⊢; rcases hq with rfl | rfl | rfl | rfl <;> simp))
   (fun q o hq e=>by
    simp only [List.mem_cons,List.not_mem_nil,or_false,not_or] at hq
    exact hs2.extBut _ _ hq.1 (a7 q o hq.1 hq.2.1 hq.2.2.1 hq.2.2.2 e)) (Nat.le_refl _) (hs2.extBut _ _ nz a5) ru1 ru2
  refine ⟨.ref s.heap.objs.size,_,I2,rfl,⟨s.heap.objs.size,x,y,I.hok.fresh (Nat.le_refl _),rfl,rfl,fun xs' h'=>by rw [I.list_inj h' hq1]; exact hx,fun ys' h'=>by rw [I.list_inj h' hq2]; exact hy⟩,?_,fun q hq=>?_⟩
  ·exact ⟨hz2,hs2.extBut _ _ D.TIz (a7 _ _ D.TIz D.TITO D.TIi1 D.TIi2 hTI),⟨_,_,hs2.extBut _ _ D.TOz a2⟩,a3.extBut hs2.extBut D.i1z,a4.extBut hs2.extBut D.i2z⟩
  ·have hn:=(hf q hq).1
   rw [upd_ne]
   ·exact hn
   ·intro e
    subst e
    obtain ⟨_,_,⟨_,_,_⟩,⟨o1,e1,_⟩,⟨o2,e2,_⟩⟩:IsZip s.heap z TI TO .none∧IsPair s.heap TI (.ref i1) (.ref i2)∧(∃ c d,IsPair s.heap TO c d)∧s.heap.IsListIter i1 a i∧s.heap.IsListIter i2 b i:=⟨hz,hTI,⟨c,d,hTO⟩,h1,h2⟩
    simp only [List.mem_cons,List.not_mem_nil,or_false] at hq
    rcases hq with q | q | q | q | q
    ·exact nz q
    ·exact Nat.ne_of_gt (Heap.lt_size hTI) q
    ·exact Nat.ne_of_gt (Heap.lt_size hTO) q
    ·exact Nat.ne_of_gt (Heap.lt_size e1) q
    ·exact Nat.ne_of_gt (Heap.lt_size e2) q
 done:=by
  intro X hP hw hK hc i pins s σ H E I hf st hg
  subst hP hw hK
  obtain ⟨xs,ys,hq1,hq2,hl⟩:=hg
  obtain ⟨hz,hTI,⟨c,d,hTO⟩,h1,h2⟩:=st
  obtain ⟨its1,rv1,p1,_⟩:=I.list hq1
  obtain ⟨its2,rv2,p2,_⟩:=I.list hq2
  have l1:=rv1.length
  have l2:=rv2.length
  refine wpAny_pyNext_zip_end (I.ok.hd (hc.trans hcb)) D hz hTI hTO h1 h2 p1.isList p2.isList ?_ fun h' kk=>⟨rfl,?_⟩
  ·rcases hl with hl | hl
   ·left; simp; omega
   ·right; simp; omega
  ·refine I.step (t':=s.toks) (g':=s.gens) (d':=s.drawn) (ch:=[z,TO,i1,i2]) (fun q hq=>?_) (fun q o _ _ hc e _=>?_) (fun q o _ _ hc e _=>⟨o.slots,?_⟩) (fun _ _ _ _ n=>n) (fun q o hc e=>⟨o,?_⟩)
    (fun _ _ e=>e) (fun _ _ _ e=>e) (fun q ps e=>⟨#[],by rw [e]; simp⟩) (fun m hm=>?_) (fun q u e=>?_) I.bare
   ·obtain ⟨_,f1,_,f3,f4,f5⟩:=hf q (by simp only [List.mem_cons,List.not_mem_nil,or_false] at hq ⊢; rcases hq with rfl | rfl | rfl | rfl <;> simp)
    exact ⟨f3,f1,f4,f5⟩
   ·simp only [List.mem_cons,List.not_mem_nil,or_false,not_or] at hc
    exact kk q o hc.1 hc.2.1 hc.2.2.1 hc.2.2.2 e
   ·simp only [List.mem_cons,List.not_mem_nil,or_false,not_or] at hc
    exact kk q o hc.1 hc.2.1 hc.2.2.1 hc.2.2.2 e
   ·simp only [List.mem_cons,List.not_mem_nil,or_false,not_or] at hc
    exact kk q o hc.1 hc.2.1 hc.2.2.1 hc.2.2.2 e
   ·obtain ⟨o,es',ep,ho,r⟩:=hm
    exact ⟨o,es',ep,kk _ o (Ne.symm (hf z (by simp)).2.1) (Ne.symm (hf TO (by simp)).2.1) (Ne.symm (hf i1 (by simp)).2.1) (Ne.symm (hf i2 (by simp)).2.1) ho,r⟩
   ·have nh:∀ c v,H c=some v→c≠z∧c≠TO∧c≠i1∧c≠i2:=fun c v e=>by
     refine ⟨?_,?_,?_,?_⟩
     ·rintro rfl; have:=(hf c (by simp)).1; rw [e] at this; cases this
     ·rintro rfl; have:=(hf c (by simp)).1; rw [e] at this; cases this
     ·rintro rfl; have:=(hf c (by simp)).1; rw [e] at this; cases this
     ·rintro rfl; have:=(hf c (by simp)).1; rw [e] at this; cases this
    refine (I.hok q u e).stay (fun c v hc q'=>?_) (fun _ q=>q) fun _ _ q=>q
    have:c≠z∧c≠TO∧c≠i1∧c≠i2:=by
     rcases hc with rfl | hc
     ·exact nh _ _ e
     ·exact nh _ _ hc
    exact kk c v this.1 this.2.1 this.2.2.1 this.2.2.2 q'
 self:=fun _ _ _ _ _ st h=>wpAny_pyIter_zip st.1 h
noncomputable def ItzT (K : PySem.W.Frag) (a b : Addr) : L2.It :=
  ⟨fun i H => ∃ xs ys x y, SqT K H a xs ∧ SqL K H b ys ∧ xs[i]? = some x ∧ ys[i]? = some y,
   fun i H v H' => ∃ p x y, H p = none ∧ v = .ref p ∧ H' = upd H p (.tup [x, y]) ∧ (∀ xs, SqT K H a xs → xs[i]? = some x) ∧ ∀ ys, SqL K H b ys → ys[i]? = some y,
   fun i H => ∃ xs, SqT K H a xs ∧ xs.length ≤ i⟩
theorem turn_zipT {cb:Bool} (hcb:cb=true) {P:Program} {w:World} {K:PySem.W.Frag} {es:List Expr} {k:Nat} {pos:Pos} (a b z TI TO i1 i2:Addr) (D:ZipApart z TI TO i1 i2 a b) :
  Turn cb P w K (.Tuple es k pos) (ItzT K a b) [z,TI,TO,i1,i2] z (fun i h=>IsZip h z TI TO .none∧IsPair h TI (.ref i1) (.ref i2)∧(∃ c d,IsPair h TO c d)∧h.IsTupleIter i1 a i∧h.IsListIter i2 b i) where
 mem:=by simp
 obj:=fun i h st c hc=>by
  obtain ⟨hz,hTI,⟨_,_,hTO⟩,⟨o1,e1,_,d1⟩,⟨o2,e2,_,d2⟩⟩:=st
  simp only [List.mem_cons,List.not_mem_nil,or_false] at hc
  rcases hc with rfl | rfl | rfl | rfl | rfl
  ·exact ⟨_,hz,fun v q=>by cases q⟩
  ·exact ⟨_,hTI,fun v q=>by cases q⟩
  ·exact ⟨_,hTO,fun v q=>by cases q⟩
  ·exact ⟨_,e1,fun v q=>by rw [d1] at q; cases q⟩
  ·exact ⟨_,e2,fun v q=>by rw [d2] at q; cases q⟩
 keep:=fun i h h' st kk=>by
  obtain ⟨hz,hTI,⟨c,d,hTO⟩,h1,h2⟩:=st
  exact ⟨kk z (by simp) _ hz,kk TI (by simp) _ hTI,⟨c,d,kk TO (by simp) _ hTO⟩,h1.at fun o e=>kk i1 (by simp) o e,h2.at fun o e=>kk i2 (by simp) o e⟩
 item:=by
  intro X hP hw hK hc i pins s σ H E I hf st hg
  subst hP hw hK
  obtain ⟨xs,ys,x,y,hq1,hq2,hx,hy⟩:=hg
  obtain ⟨hz,hTI,⟨c,d,hTO⟩,h1,h2⟩:=st
  obtain ⟨its1,rv1,p1,_⟩:=I.tuple hq1
  obtain ⟨its2,rv2,p2,_⟩:=I.list hq2
  obtain ⟨u1,hu1,ru1⟩:=rv1.get hx
  obtain ⟨u2,hu2,ru2⟩:=rv2.get hy
  refine zipT_item D hz hTI hTO h1 h2 (show s.heap.IsTuple a its1.toArray from p1) p2.isList (x:=u1) (y:=u2) (by simpa using hu1) (by simpa using hu2) fun h' a1 a2 a3 a4 a5 a6 a7=>⟨_,rfl,?_⟩
  refine wpAny_letOwnedTupleGo_zip (s:={ s with heap:=h' }) a1 fun h2' hz2 hs2=>?_
  have hzl:z < s.heap.objs.size:=Heap.lt_size hz
  have nz:s.heap.objs.size≠z:=Nat.ne_of_gt hzl
  have I2:Inv X pins σ (upd H s.heap.objs.size (.tup [x,y])) { s with heap:=h2' }:=inv_pair (ch:=[z,TO,i1,i2]) I (fun q hq=>hf q (by simp only [List.mem_cons,List.not_mem_nil,or_false] at hq ⊢; rcases hq with rfl | rfl | rfl | rfl <;> simp))
   (fun q o hq e=>by
    simp only [List.mem_cons,List.not_mem_nil,or_false,not_or] at hq
    exact hs2.extBut _ _ hq.1 (a7 q o hq.1 hq.2.1 hq.2.2.1 hq.2.2.2 e)) (Nat.le_refl _) (hs2.extBut _ _ nz a5) ru1 ru2
  refine ⟨.ref s.heap.objs.size,_,I2,rfl,⟨s.heap.objs.size,x,y,I.hok.fresh (Nat.le_refl _),rfl,rfl,fun xs' h'=>by rw [I.tuple_inj h' hq1]; exact hx,fun ys' h'=>by rw [I.list_inj h' hq2]; exact hy⟩,?_,fun q hq=>?_⟩
  ·exact ⟨hz2,hs2.extBut _ _ D.TIz (a7 _ _ D.TIz D.TITO D.TIi1 D.TIi2 hTI),⟨_,_,hs2.extBut _ _ D.TOz a2⟩,a3.extBut hs2.extBut D.i1z,a4.extBut hs2.extBut D.i2z⟩
  ·have hn:=(hf q hq).1
   rw [upd_ne]
   ·exact hn
   ·intro e
    subst e
    obtain ⟨_,_,⟨_,_,_⟩,⟨o1,e1,_⟩,⟨o2,e2,_⟩⟩:IsZip s.heap z TI TO .none∧IsPair s.heap TI (.ref i1) (.ref i2)∧(∃ c d,IsPair s.heap TO c d)∧s.heap.IsTupleIter i1 a i∧s.heap.IsListIter i2 b i:=⟨hz,hTI,⟨c,d,hTO⟩,h1,h2⟩
    simp only [List.mem_cons,List.not_mem_nil,or_false] at hq
    rcases hq with q | q | q | q | q
    ·exact nz q
    ·exact Nat.ne_of_gt (Heap.lt_size hTI) q
    ·exact Nat.ne_of_gt (Heap.lt_size hTO) q
    ·exact Nat.ne_of_gt (Heap.lt_size e1) q
    ·exact Nat.ne_of_gt (Heap.lt_size e2) q
 done:=by
  intro X hP hw hK hc i pins s σ H E I hf st hg
  subst hP hw hK
  obtain ⟨xs,hq1,hl⟩:=hg
  obtain ⟨hz,hTI,⟨c,d,hTO⟩,h1,h2⟩:=st
  obtain ⟨its1,rv1,p1,_⟩:=I.tuple hq1
  have l1:=rv1.length
  refine zipT_end (I.ok.hd (hc.trans hcb)) D hz hTI hTO h1 (show s.heap.IsTuple a its1.toArray from p1) (by simp; omega) fun h' kk=>⟨rfl,?_⟩
  ·refine I.step (t':=s.toks) (g':=s.gens) (d':=s.drawn) (ch:=[z,TO,i1,i2]) (fun q hq=>?_) (fun q o _ _ hc e _=>?_) (fun q o _ _ hc e _=>⟨o.slots,?_⟩) (fun _ _ _ _ n=>n) (fun q o hc e=>⟨o,?_⟩)
    (fun _ _ e=>e) (fun _ _ _ e=>e) (fun q ps e=>⟨#[],by rw [e]; simp⟩) (fun m hm=>?_) (fun q u e=>?_) I.bare
   ·obtain ⟨_,f1,_,f3,f4,f5⟩:=hf q (by simp only [List.mem_cons,List.not_mem_nil,or_false] at hq ⊢; rcases hq with rfl | rfl | rfl | rfl <;> simp)
    exact ⟨f3,f1,f4,f5⟩
   ·simp only [List.mem_cons,List.not_mem_nil,or_false,not_or] at hc
    exact kk q o hc.1 hc.2.1 hc.2.2.1 hc.2.2.2 e
   ·simp only [List.mem_cons,List.not_mem_nil,or_false,not_or] at hc
    exact kk q o hc.1 hc.2.1 hc.2.2.1 hc.2.2.2 e
   ·simp only [List.mem_cons,List.not_mem_nil,or_false,not_or] at hc
    exact kk q o hc.1 hc.2.1 hc.2.2.1 hc.2.2.2 e
   ·obtain ⟨o,es',ep,ho,r⟩:=hm
    exact ⟨o,es',ep,kk _ o (Ne.symm (hf z (by simp)).2.1) (Ne.symm (hf TO (by simp)).2.1) (Ne.symm (hf i1 (by simp)).2.1) (Ne.symm (hf i2 (by simp)).2.1) ho,r⟩
   ·have nh:∀ c v,H c=some v→c≠z∧c≠TO∧c≠i1∧c≠i2:=fun c v e=>by
     refine ⟨?_,?_,?_,?_⟩
     ·rintro rfl; have:=(hf c (by simp)).1; rw [e] at this; cases this
     ·rintro rfl; have:=(hf c (by simp)).1; rw [e] at this; cases this
     ·rintro rfl; have:=(hf c (by simp)).1; rw [e] at this; cases this
     ·rintro rfl; have:=(hf c (by simp)).1; rw [e] at this; cases this
    refine (I.hok q u e).stay (fun c v hc q'=>?_) (fun _ q=>q) fun _ _ q=>q
    have:c≠z∧c≠TO∧c≠i1∧c≠i2:=by
     rcases hc with rfl | hc
     ·exact nh _ _ e
     ·exact nh _ _ hc
    exact kk c v this.1 this.2.1 this.2.2.1 this.2.2.2 q'
 self:=fun _ _ _ _ _ st h=>wpAny_pyIter_zip st.1 h
section
variable {K:PySem.W.Frag} {H:Hp} {θ:List Addr} {μ:Mem} {ds es:List D} {a b:Addr}
theorem zipD_len:∀ (ds es:List D),(zipD ds es).length=min ds.length es.length
 | [],es=>by simp [zipD]
 | _ :: _,[]=>by simp [zipD]
 | d :: ds,e :: es=>by simp [zipD,zipD_len ds es]
theorem zipD_get:∀ (ds es:List D) (i:Nat),i < (zipD ds es).length→∃ d e,ds[i]? = some d∧es[i]? = some e∧(zipD ds es)[i]? = some (.tup [d,e])
 | [],es,i,h=>by simp [zipD] at h
 | _ :: _,[],i,h=>by simp [zipD] at h
 | d :: ds,e :: es,0,h=>⟨d,e,rfl,rfl,rfl⟩
 | d :: ds,e :: es,i + 1,h=>by
  obtain ⟨x,y,h1,h2,h3⟩:=zipD_get ds es i (by simpa [zipD] using h)
  exact ⟨x,y,by simpa using h1,by simpa using h2,by simpa [zipD] using h3⟩
theorem walk_zip (hl:ds.length≤sizeLine) (g:Mem→Prop) (h:∀ (H':Hp) (θ':List Addr) (μ':Mem),WOk K H' θ' μ'→Grow H θ μ H' θ' μ'→g μ'→∃ xs ys,SqL K H' a xs∧Rps K H' θ' μ' ds xs∧SqL K H' b ys∧Rps K H' θ' μ' es ys) :
  WalkOk K (Itz K a b) (zipD ds es) g H θ μ:=by
 refine ⟨by rw [zipD_len]; omega,fun i H' θ' μ' w' gr hg=>?_⟩
 obtain ⟨xs,ys,hx,rx,hy,ry⟩:=h H' θ' μ' w' gr hg
 refine ⟨fun hi=>?_,fun hi=>⟨xs,ys,hx,hy,?_⟩⟩
 ·obtain ⟨d,e,h1,h2,h3⟩:=zipD_get ds es i hi
  obtain ⟨v,e1,e2⟩:=rx.get h1
  obtain ⟨u,f1,f2⟩:=ry.get h2
  refine ⟨⟨xs,ys,v,u,hx,hy,e1,f1⟩,fun x H'' y=>?_⟩
  obtain ⟨p,x',y',hn,rfl,rfl,y1,y2⟩:=y
  have:=y1 xs hx
  rw [e1] at this; cases this
  have:=y2 ys hy
  rw [f1] at this; cases this
  have ext:∀ a o,H' a=some o→(upd H' p (.tup [v,u])) a=some o:=ext_upd hn
  refine ⟨w'.ext ext,Grow.ext ext,_,h3,?_⟩
  unfold Rep
  exact ⟨p,[v,u],rfl,upd_same,w'.notLive hn,Reps.cons ((Grow.ext ext).rep e2) (Reps.one ((Grow.ext ext).rep f2))⟩
 ·rw [zipD_len] at hi
  have:=rx.length
  have:=ry.length
  omega
theorem walk_zipT (hl:ds.length≤sizeLine) (hle:ds.length≤es.length) (g:Mem→Prop) (h:∀ (H':Hp) (θ':List Addr) (μ':Mem),WOk K H' θ' μ'→Grow H θ μ H' θ' μ'→g μ'→∃ xs ys,SqT K H' a xs∧Rps K H' θ' μ' ds xs∧SqL K H' b ys∧Rps K H' θ' μ' es ys) :
  WalkOk K (ItzT K a b) (zipD ds es) g H θ μ:=by
 refine ⟨by rw [zipD_len]; omega,fun i H' θ' μ' w' gr hg=>?_⟩
 obtain ⟨xs,ys,hx,rx,hy,ry⟩:=h H' θ' μ' w' gr hg
 refine ⟨fun hi=>?_,fun hi=>⟨xs,hx,?_⟩⟩
 ·obtain ⟨d,e,h1,h2,h3⟩:=zipD_get ds es i hi
  obtain ⟨v,e1,e2⟩:=rx.get h1
  obtain ⟨u,f1,f2⟩:=ry.get h2
  refine ⟨⟨xs,ys,v,u,hx,hy,e1,f1⟩,fun x H'' y=>?_⟩
  obtain ⟨p,x',y',hn,rfl,rfl,y1,y2⟩:=y
  have:=y1 xs hx
  rw [e1] at this; cases this
  have:=y2 ys hy
  rw [f1] at this; cases this
  have ext:∀ a o,H' a=some o→(upd H' p (.tup [v,u])) a=some o:=ext_upd hn
  refine ⟨w'.ext ext,Grow.ext ext,_,h3,?_⟩
  unfold Rep
  exact ⟨p,[v,u],rfl,upd_same,w'.notLive hn,Reps.cons ((Grow.ext ext).rep e2) (Reps.one ((Grow.ext ext).rep f2))⟩
 ·rw [zipD_len] at hi
  have:=rx.length
  have:=ry.length
  omega
end
section
variable {X:Cx}
theorem pi_zipD {l r:Expr} {wl wr:WE} {y:Str} {p pos tp:Pos} {es:List Expr} {k:Nat} (hcl:X.calm=true) (ey:y=Str.ofString "zip") (hg:Gl X y) (hm:X.mg y=none) (hl:PE X l (LE X.K wl)) (hr:PE X r (LE X.K wr)) (hs:starEach [l,r] X.env=[(false,eval l X.env),(false,eval r X.env)]) (hs2:starEach [r] X.env=[(false,eval r X.env)]) :
  PI X (.Tuple es k tp) (.Call (.Name y p) [l,r] [] pos) (LI X.K fun ρ μ Q=>wl ρ μ fun a μ1=>wr ρ μ1 fun b μ2=>wZip a b μ2 Q):=by
 subst ey
 intro pins s σ H R I h
 obtain ⟨ρ,θ,μ,Qi,sm,h,f⟩:=h
 have hA:PA X [l,r] (tCons (LE X.K wl) (tCons (LE X.K wr) tNil)):=pa_cons hl (pa_cons hr pa_nil (by rw [hs2]; rfl)) (by rw [hs,hs2])
 refine Call_ (ld_blt I hg hm boot_zip (PyProof.Rows.callWith_type1 (thn (hA pos pins s σ H (fun vs H2=>∃ d e v w θ2 μ2,vs=[v,w]∧WOk X.K H2 θ2 μ2∧Grow H θ μ H2 θ2 μ2∧Rp X.K H2 θ2 μ2 d v∧Rp X.K H2 θ2 μ2 e w∧wZip d e μ2 Qi) I
  ⟨ρ,θ,μ,_,sm,h,fun d v H1 θ1 μ1 w1 g1 r1 h1=>⟨ρ,θ1,μ1,_,sm.grow w1 g1,h1,fun e w H2 θ2 μ2 w2 g2 r2 h2=>⟨d,e,v,w,θ2,μ2,rfl,w2,g1.trans g2,g2.rep r1,r2,h2⟩⟩⟩) fun us s1 ⟨vs,H2,I2,rv,d,e,v,w,θ2,μ2,ev,w2,g2,rd,re,hq⟩=>?_) (by rw [hs,hs2]) (by rw [hs2]; rfl)))
 subst ev
 unfold wZip at hq
 split at hq
 ·rename_i as bs ha hb
  obtain ⟨a,xs,rfl,sa,ra⟩:=lstOf_sq w2 rd ha
  obtain ⟨b,ys,rfl,sb,rb⟩:=lstOf_sq w2 re hb
  cases rv with
  | cons r1 rr =>
   cases rr with
   | cons r2 rr =>
    cases rr
    cases r1
    cases r2
    obtain ⟨i1,v1,p1,z1⟩:=I2.list sa
    obtain ⟨i2,v2,p2,z2⟩:=I2.list sb
    have la:as.length≤sizeLine:=by rw [ra.length]; exact z1
    obtain ⟨oa,ga,_⟩:=p1.isList
    obtain ⟨ob,gb,_⟩:=p2.isList
    have ha':a < s1.heap.objs.size:=Heap.lt_size ga
    have hb':b < s1.heap.objs.size:=Heap.lt_size gb
    refine call_zip_2 p1.isList p2.isList fun h' a1 a2 a3 a4 a5 a6 kk=>?_
    have I3:Inv X pins σ H2 { s1 with heap:=h' }:=I2.kept (t':=s1.toks) kk
    have D:ZipApart (s1.heap.objs.size + 4) (s1.heap.objs.size + 2) (s1.heap.objs.size + 3) s1.heap.objs.size (s1.heap.objs.size + 1) a b:=by
     have na:∀ j,a≠s1.heap.objs.size + j:=fun j=>Nat.ne_of_lt (Nat.lt_of_lt_of_le ha' (Nat.le_add_right _ _))
     have nb:∀ j,b≠s1.heap.objs.size + j:=fun j=>Nat.ne_of_lt (Nat.lt_of_lt_of_le hb' (Nat.le_add_right _ _))
     refine ⟨?_,?_,?_,?_,?_,?_,?_,?_,?_,?_,na 4,na 3,na 0,na 1,nb 4,nb 3,nb 0,nb 1⟩ <;> (intro q; have q':(_:Nat)=_:=q; omega)
    refine wpAny_pyIter_zip a1 ⟨_,_,_,Itz X.K a b,H2,rfl,I3,turn_zip hcl a b _ _ _ _ _ D,⟨a1,a2,⟨_,_,a3⟩,a4,a5⟩,fun q hq'=>?_,?_⟩
    ·have:s1.heap.objs.size≤q:=by
      simp only [List.mem_cons,List.not_mem_nil,or_false] at hq'
      rcases hq' with rfl | rfl | rfl | rfl | rfl
      ·exact Nat.le_add_right _ _
      ·exact Nat.le_add_right _ _
      ·exact Nat.le_add_right _ _
      ·exact Nat.le_refl _
      ·exact Nat.le_add_right _ _
     exact I2.fpOk this (I2.hok.fresh this)
    ·refine f _ _ _ H2 θ2 μ2 w2 g2 (walk_zip la _ fun H' θ' μ' w' gr hg=>?_) hq
     obtain ⟨a',xs',e1,s1',r1'⟩:=lstOf_sq w' (gr.rep rd) hg.1
     obtain ⟨b',ys',e2,s2',r2'⟩:=lstOf_sq w' (gr.rep re) hg.2
     cases e1; cases e2
     exact ⟨xs',ys',s1',r1',s2',r2'⟩
 ·rename_i bs ha hb
  split at hq
  ·rename_i as
   obtain ⟨a,xs,rfl,sa,_,ra⟩:=inv_tup rd
   obtain ⟨hle,hq⟩:=hq
   obtain ⟨b,ys,rfl,sb,rb⟩:=lstOf_sq w2 re hb
   cases rv with
   | cons r1 rr =>
    cases rr with
    | cons r2 rr =>
     cases rr
     cases r1
     cases r2
     obtain ⟨i1,v1,p1,z1⟩:=I2.tuple (.inl (.of sa))
     obtain ⟨i2,v2,p2,z2⟩:=I2.list sb
     have la:as.length≤sizeLine:=by rw [ra.length]; exact z1
     obtain ⟨oa,ga,_⟩:=id p1
     obtain ⟨ob,gb,_⟩:=p2.isList
     have ha':a < s1.heap.objs.size:=Heap.lt_size ga
     have hb':b < s1.heap.objs.size:=Heap.lt_size gb
     refine call_zipT (show s1.heap.IsTuple a i1.toArray from p1) p2.isList fun h' a1 a2 a3 a4 a5 kk=>?_
     have I3:Inv X pins σ H2 { s1 with heap:=h' }:=I2.kept (t':=s1.toks) kk
     have D:ZipApart (s1.heap.objs.size + 4) (s1.heap.objs.size + 2) (s1.heap.objs.size + 3) s1.heap.objs.size (s1.heap.objs.size + 1) a b:=by
      have na:∀ j,a≠s1.heap.objs.size + j:=fun j=>Nat.ne_of_lt (Nat.lt_of_lt_of_le ha' (Nat.le_add_right _ _))
      have nb:∀ j,b≠s1.heap.objs.size + j:=fun j=>Nat.ne_of_lt (Nat.lt_of_lt_of_le hb' (Nat.le_add_right _ _))
      refine ⟨?_,?_,?_,?_,?_,?_,?_,?_,?_,?_,na 4,na 3,na 0,na 1,nb 4,nb 3,nb 0,nb 1⟩ <;> (intro q; have q':(_:Nat)=_:=q; omega)
     refine wpAny_pyIter_zip a1 ⟨_,_,_,ItzT X.K a b,H2,rfl,I3,turn_zipT hcl a b _ _ _ _ _ D,⟨a1,a2,⟨_,_,a3⟩,a4,a5⟩,fun q hq'=>?_,?_⟩
     ·have:s1.heap.objs.size≤q:=by
       simp only [List.mem_cons,List.not_mem_nil,or_false] at hq'
       rcases hq' with rfl | rfl | rfl | rfl | rfl
       ·exact Nat.le_add_right _ _
       ·exact Nat.le_add_right _ _
       ·exact Nat.le_add_right _ _
       ·exact Nat.le_refl _
       ·exact Nat.le_add_right _ _
      exact I2.fpOk this (I2.hok.fresh this)
     ·refine f _ _ _ H2 θ2 μ2 w2 g2 (walk_zipT la hle _ fun H' θ' μ' w' gr hg=>?_) hq
      obtain ⟨a',xs',e1,s1',_,r1'⟩:=inv_tup (gr.rep rd)
      obtain ⟨b',ys',e2,s2',r2'⟩:=lstOf_sq w' (gr.rep re) hg
      cases e1; cases e2
      exact ⟨xs',ys',.inl (.of s1'),r1',s2',r2'⟩
  ·exact hq.elim
 ·exact hq.elim
end
end DW
end
section
set_option autoImplicit false
set_option maxHeartbeats 2000000
namespace DW
open PySem PySem.Spec PyProof.Rows L2
theorem boot_enum:bootBuiltins (Str.ofString "enumerate")=some (.type "enumerate"):=by decide +kernel
noncomputable def Ite (K : PySem.W.Frag) (a : Addr) : L2.It :=
  ⟨fun i H => ∃ xs x, SqL K H a xs ∧ xs[i]? = some x,
   fun i H v H' => ∃ p x, H p = none ∧ v = .ref p ∧ H' = upd H p (.tup [.int (i : Int), x]) ∧ ∀ xs, SqL K H a xs → xs[i]? = some x,
   fun i H => ∃ xs, SqL K H a xs ∧ xs.length ≤ i⟩
theorem turn_enum {cb:Bool} (hcb:cb=true) {P:Program} {w:World} {K:PySem.W.Frag} {es:List Expr} {k:Nat} {pos:Pos} (a z i1:Addr) (hzi:z≠i1) (haz:a≠z) (hai:a≠i1) :
  Turn cb P w K (.Tuple es k pos) (Ite K a) [z,i1] z (fun i h=>(∃ old,IsEnum h z i1 i old)∧h.IsListIter i1 a i) where
 mem:=by simp
 obj:=fun i h st c hc=>by
  obtain ⟨⟨old,hz⟩,⟨o1,e1,_,d1⟩⟩:=st
  simp only [List.mem_cons,List.not_mem_nil,or_false] at hc
  rcases hc with rfl | rfl
  ·exact ⟨_,hz,fun v q=>by cases q⟩
  ·exact ⟨_,e1,fun v q=>by rw [d1] at q; cases q⟩
 keep:=fun i h h' st kk=>by
  obtain ⟨⟨old,hz⟩,h1⟩:=st
  exact ⟨⟨old,kk z (by simp) _ hz⟩,h1.at fun o e=>kk i1 (by simp) o e⟩
 item:=by
  intro X hP hw hK hc i pins s σ H E I hf st hg
  subst hP hw hK
  obtain ⟨xs,x,hq1,hx⟩:=hg
  obtain ⟨⟨old,hz⟩,h1⟩:=st
  obtain ⟨its1,rv1,p1,_⟩:=I.list hq1
  obtain ⟨u1,hu1,ru1⟩:=rv1.get hx
  refine wpAny_pyNext_enum_item hz h1 p1.isList (x:=u1) (by simpa using hu1) hzi fun h' ho hit' hT hsz kk=>⟨_,rfl,?_⟩
  refine wpAny_letOwnedTupleGo_enum (s:={ s with heap:=h',toks:=s.toks + 1 }) ho fun h2' hz2 hs2=>?_
  have hzl:z < s.heap.objs.size:=Heap.lt_size hz
  have nz:s.heap.objs.size≠z:=Nat.ne_of_gt hzl
  have hil:i1 < s.heap.objs.size:=by obtain ⟨_,e,_⟩:=h1; exact Heap.lt_size e
  have I2:Inv X pins σ (upd H s.heap.objs.size (.tup [.int (i:Int),x])) { s with heap:=h2' }:=inv_pair (ch:=[z,i1]) I (fun q hq=>hf q hq)
   (fun q o hq e=>by
    simp only [List.mem_cons,List.not_mem_nil,or_false,not_or] at hq
    exact (hs2.2 q hq.1).trans (kk q o hq.1 hq.2 e)) (Nat.le_refl _) ((hs2.2 _ nz).trans hT) ⟨_,rfl⟩ ru1
  refine ⟨.ref s.heap.objs.size,_,I2.tok _,rfl,⟨s.heap.objs.size,x,I.hok.fresh (Nat.le_refl _),rfl,rfl,fun xs' h'=>by rw [I.list_inj h' hq1]; exact hx⟩,?_,fun q hq=>?_⟩
  ·exact ⟨⟨u1,by simpa using hz2⟩,hit'.at fun o y=>(hs2.2 i1 (Ne.symm hzi)).trans y⟩
  ·have hn:=(hf q hq).1
   rw [upd_ne]
   ·exact hn
   ·intro e
    subst e
    simp only [List.mem_cons,List.not_mem_nil,or_false] at hq
    rcases hq with q | q
    ·exact nz q
    ·exact Nat.ne_of_gt hil q
 done:=by
  intro X hP hw hK hc i pins s σ H E I hf st hg
  subst hP hw hK
  obtain ⟨xs,hq1,hl⟩:=hg
  obtain ⟨⟨old,hz⟩,h1⟩:=st
  obtain ⟨its1,rv1,p1,_⟩:=I.list hq1
  have l1:=rv1.length
  obtain ⟨f0,f1,f2,f3,f4,f5⟩:=hf i1 (by simp)
  exact wpAny_pyNext_enum_end (I.ok.hd (hc.trans hcb)) hz h1 p1.isList (by simp; omega) fun h' eb=>⟨rfl,I.turned (t':=s.toks) (fun b o hb e=>eb b o hb e) f0 f1 f3 f4 f5⟩
 self:=fun _ _ _ _ _ st h=>by
  obtain ⟨⟨old,hz⟩,_⟩:=st
  exact wpAny_pyIter_enum hz h
section
variable {K:PySem.W.Frag} {H:Hp} {θ:List Addr} {μ:Mem} {ds:List D} {a:Addr}
theorem enumD_len:∀ (k:Nat) (ds:List D),(enumD k ds).length=ds.length
 | _,[]=>rfl
 | k,d :: ds=>by simp [enumD,enumD_len (k + 1) ds]
theorem enumD_get:∀ (k:Nat) (ds:List D) (i:Nat) (d:D),ds[i]? = some d→(enumD k ds)[i]? = some (.tup [.int ((k + i:Nat):Int),d])
 | _,[],i,d,h=>by simp at h
 | k,e :: ds,0,d,h=>by simp at h; subst h; simp [enumD]
 | k,e :: ds,i + 1,d,h=>by
  have:=enumD_get (k + 1) ds i d (by simpa using h)
  simp only [enumD,List.getElem?_cons_succ]
  rw [this]
  congr 4
  omega
theorem walk_enum (hl:ds.length≤sizeLine) (g:Mem→Prop) (h:∀ (H':Hp) (θ':List Addr) (μ':Mem),WOk K H' θ' μ'→Grow H θ μ H' θ' μ'→g μ'→∃ xs,SqL K H' a xs∧Rps K H' θ' μ' ds xs):WalkOk K (Ite K a) (enumD 0 ds) g H θ μ:=by
 refine ⟨by rw [enumD_len]; exact hl,fun i H' θ' μ' w' gr hg=>?_⟩
 obtain ⟨xs,hx,rx⟩:=h H' θ' μ' w' gr hg
 refine ⟨fun hi=>?_,fun hi=>⟨xs,hx,?_⟩⟩
 ·rw [enumD_len] at hi
  have h1:ds[i]? = some ds[i]:=List.getElem?_eq_getElem hi
  obtain ⟨v,e1,e2⟩:=rx.get h1
  refine ⟨⟨xs,v,hx,e1⟩,fun x H'' y=>?_⟩
  obtain ⟨p,x',hn,rfl,rfl,y1⟩:=y
  have:=y1 xs hx
  rw [e1] at this; cases this
  have ext:∀ b o,H' b=some o→(upd H' p (.tup [.int (i:Int),v])) b=some o:=ext_upd hn
  refine ⟨w'.ext ext,Grow.ext ext,_,enumD_get 0 ds i _ h1,?_⟩
  unfold Rep
  refine ⟨p,[.int (i:Int),v],rfl,upd_same,w'.notLive hn,Reps.cons ?_ (Reps.one ((Grow.ext ext).rep e2))⟩
  rw [Nat.zero_add]; exact rp_int
 ·rw [enumD_len] at hi
  have:=rx.length
  omega
end
section
variable {X:Cx}
theorem pi_enumD {l:Expr} {wl:WE} {y:Str} {p pos tp:Pos} {es:List Expr} {k:Nat} (hcl:X.calm=true) (ey:y=Str.ofString "enumerate") (hg:Gl X y) (hm:X.mg y=none) (hl:PE X l (LE X.K wl)) (hs:starEach [l] X.env=[(false,eval l X.env)]) :
  PI X (.Tuple es k tp) (.Call (.Name y p) [l] [] pos) (LI X.K fun ρ μ Q=>wl ρ μ fun a μ1=>wEnum a μ1 Q):=by
 subst ey
 intro pins s σ H R I h
 obtain ⟨ρ,θ,μ,Qi,sm,h,f⟩:=h
 have hA:PA X [l] (tCons (LE X.K wl) tNil):=pa_cons hl pa_nil (by rw [hs]; rfl)
 refine Call_ (ld_blt I hg hm boot_enum (PyProof.Rows.callWith_type1 (thn (hA pos pins s σ H (fun vs H2=>∃ d v θ2 μ2,vs=[v]∧WOk X.K H2 θ2 μ2∧Grow H θ μ H2 θ2 μ2∧Rp X.K H2 θ2 μ2 d v∧wEnum d μ2 Qi) I
  ⟨ρ,θ,μ,_,sm,h,fun d v H1 θ1 μ1 w1 g1 r1 h1=>⟨d,v,θ1,μ1,rfl,w1,g1,r1,h1⟩⟩) fun us s1 ⟨vs,H2,I2,rv,d,v,θ2,μ2,ev,w2,g2,rd,hq⟩=>?_) (by rw [hs]; rfl) rfl))
 subst ev
 unfold wEnum at hq
 split at hq
 ·rename_i as ha
  obtain ⟨a,xs,rfl,sa,ra⟩:=lstOf_sq w2 rd ha
  cases rv with
  | cons r1 rr =>
   cases rr
   cases r1
   obtain ⟨i1,v1,p1,z1⟩:=I2.list sa
   have la:as.length≤sizeLine:=by rw [ra.length]; exact z1
   obtain ⟨oa,ga,_⟩:=p1.isList
   have ha':a < s1.heap.objs.size:=Heap.lt_size ga
   refine call_enumerate_list p1.isList fun h' a1 a2 a3 kk=>?_
   have I3:Inv X pins σ H2 { s1 with heap:=h' }:=I2.kept (t':=s1.toks) kk
   refine wpAny_pyIter_enum a1 ⟨_,_,_,Ite X.K a,H2,rfl,I3,turn_enum hcl a _ _ (Nat.ne_of_gt (Nat.lt_succ_self _)) (Nat.ne_of_lt (Nat.lt_succ_of_lt ha')) (Nat.ne_of_lt ha'),⟨⟨_,a1⟩,a2⟩,fun q hq'=>?_,?_⟩
   ·have:s1.heap.objs.size≤q:=by
     simp only [List.mem_cons,List.not_mem_nil,or_false] at hq'
     rcases hq' with rfl | rfl
     ·exact Nat.le_succ _
     ·exact Nat.le_refl _
    exact I2.fpOk this (I2.hok.fresh this)
   ·refine f _ _ _ H2 θ2 μ2 w2 g2 (walk_enum la _ fun H' θ' μ' w' gr hg=>?_) hq
    obtain ⟨a',xs',e1,s1',r1'⟩:=lstOf_sq w' (gr.rep rd) hg
    cases e1
    exact ⟨xs',s1',r1'⟩
 ·exact hq.elim
end
end DW
end
section
set_option autoImplicit false
set_option maxHeartbeats 2000000
namespace DW
open PySem PySem.Spec PyProof.Rows L2
section
variable {K:PySem.W.Frag} {H:Hp} {θ:List Addr} {μ:Mem} {ds:List D} {a:Addr}
end
section
variable {X:Cx} {tg:Expr}
end
end DW
end
section
set_option autoImplicit false
namespace DW
open PySem PySem.Spec PyProof.Rows L2
section
variable {X:Cx}
end
set_option maxHeartbeats 1000000
section
variable {prog:Program} {w:World} {A:Around} {R:Result→Shared→Prop} {I l S:Addr} {items:Array Value} {val:Nat→Int} {dv:Value}
end
section
variable {X:Cx}
end
end DW
end
section
set_option autoImplicit false
set_option maxHeartbeats 2000000
namespace DW
open PySem PySem.W PySem.Spec PySem.Calls PyProof.Rows Builtin.Getset_descriptor
structure ExcCls (K:Frag) (C:Addr):Prop where
 ga:findIn K (.ref C) "__getattribute__" = some (some (.builtin "BaseException.__getattribute__"))
 hk:findIn K (.ref C) "__getattr__" = some none
 ex:mroIn K C (.type "BaseException")=some true
 ob:mroIn K C (.type "object")=some true
 ca:findIn K (.ref C) "__class__" = some (some (.builtin "object.__class__"))
 cg:specialIn K (.builtin "object.__class__") "__get__" = some (some (.builtin "getset_descriptor.__get__"))
 ct:takesIn K (.builtin "object.__class__")=some true
 cl:(clsIn K C).isSome=true
theorem ExcAt.ty {M:Model} {h:Heap} {x C:Addr} (p:ExcAt x C h):Looks M h (typeOf (.ref x)) (.ref C):=by
 obtain ⟨o,h1,h2⟩:=p
 exact h2 ▸ (Looks.ld h1).andThen .now
section
variable {prog:Program} {w:World} {A:Around} {E:Value→Shared→Prop} {s:Shared} {K:Frag} {x C:Addr} {name:Str}
theorem exc_check {M:Model} {nameV:Value} {Q:Unit→Shared→Prop} (X:K.In s.heap) (I:ExcAt x C s.heap) (c:ExcCls K C) (hq:Q () s) :
  wpAny M A (checkBuiltinCall "BaseException.__getattribute__" ⟨[.ref x,nameV],[]⟩) Q E s:=by
 have hk:builtinKind "BaseException.__getattribute__" = some .slot:=by decide +kernel
 have hsplit:splitId "BaseException.__getattribute__" = some ("BaseException","__getattribute__"):=by decide +kernel
 have LI:Looks M s.heap (isInstance (.ref x) (.type "BaseException")) true:=I.ty.andThen (looks_mroIn X c.ex)
 have ha:=F.args_bexc_ga (.ref x) nameV
 simp only [checkBuiltinCall,hk,hsplit]
 refine wpAny_bind (LI.at ?_)
 repeat (first | assumption | wp_step)
theorem exc_clsget {R:Result→Shared→Prop} {tp:Value} (X:K.In s.heap) (I:ExcAt x C s.heap) (c:ExcCls K C) (h:R (.ok (.ret (.ref C))) s) :
  codeAny (model prog w) A (.call (.builtin "getset_descriptor.__get__") ⟨[.builtin "object.__class__",.ref x,tp],[]⟩) R s:=by
 have ty:=I.ty (M:=model prog w)
 have sub:=looks_mroIn (M:=model prog w) X c.ob
 have isI:Looks (model prog w) s.heap (isInstance (.ref x) (.type "object")) true:=ty.andThen sub
 obtain ⟨hh,g,dr,t,os⟩:=s
 refine codeAny_call_builtin KF.slot_gs.plain KF.entry_gs (KF.slot_gs.check _ _ _ _ _ _ _ _ KF.type_class (KF.args_gs _ _ _) ?_)
 unfold Builtin.«getset_descriptor.__get__» descrGet
 rw [dga_obj]
 refine wpAny_bind (wpAny_pure ?_)
 unfold descrGetter descrCheckInstance descrNameAndClass isInstance
 simp only [KF.owner_class]
 repeat lk
 refine ⟨Code.quiet_builtin _ (by decide +kernel),codeAny_builtin KF.entry_class ?_⟩
 unfold Builtin.«object.__class__» shownTypeOf
 repeat lk
 exact h
theorem exc_class {Q:Option Value→Shared→Prop} (X:K.In s.heap) (I:ExcAt x C s.heap) (c:ExcCls K C) (h:Q (some (.ref C)) { s with toks:=s.toks + 1 }):wpAny (model prog w) A (getAttr? (.ref x) "__class__") Q E s:=by
 have L0:=I.ty (M:=model prog w)
 have L1:=looks_findIn (M:=model prog w) X c.ga
 have L2:=looks_findIn (M:=model prog w) X c.hk
 have f1:=looks_findIn (M:=model prog w) X c.ca
 have f2:=looks_specialIn (M:=model prog w) X c.cg
 have f3:=looks_takesIn (M:=model prog w) X c.ct
 have fd:Looks (model prog w) s.heap (Builtin.ObjectAttr.find (.ref x) (.ref C) "__class__") (.bind (.builtin "getset_descriptor.__get__") (.builtin "object.__class__")) :=
  f1.andThen (f2.andThen ((show Looks (model prog w) s.heap (Builtin.ObjectAttr.dataDescriptor? (some (.builtin "object.__class__")) (some (.builtin "getset_descriptor.__get__"))) (some (.builtin "getset_descriptor.__get__",.builtin "object.__class__")) from f3.andThen .now).andThen (Looks.tag .now)))
 have bnd:=F.attr_ValueError.ga.bind (.ref x)
 have hx2:(Value.builtin "BaseException.__getattribute__" == Value.builtin "object.__getattribute__")=false:=by decide +kernel
 unfold getAttr? getAttrBy?
 refine wpAny_bind (wpAny_mkText (wpAny_bind (wpAny_attempt ?_)))
 unfold getAttrBy
 refine wpAny_holding (wpAny_bind (L0.at (wpAny_bind (L1.at ?_))))
 simp only [hx2,Bool.and_false,Bool.false_eq_true,if_false]
 unfold getAttrByItsOwn hookBefore
 refine wpAny_bind (L2.at ?_)
 refine wpAny_bind (wpAny_attempt (wpAny_holding ?_))
 unfold callGetattribute
 simp only [Bool.false_and,Bool.false_eq_true,if_false]
 unfold boundAndCalled
 refine wpAny_bind (wpAny_of_eq bnd ?_)
 show wpAny _ _ (call (.builtin "BaseException.__getattribute__") [.ref x,.str "__class__" s.toks]) _ _ _
 refine wpAny_call (codeAny_call_builtin F.attr_ValueError.ga.plain F.entry_bexc_ga (exc_check (s:={ s with toks:=s.toks + 1 }) X I c ?_))
 unfold Builtin.«object.__getattribute__»
 refine wpAny_bind (wpAny_pure (wpAny_bind (wpAny_pure (wpAny_bind (L0.at (wpAny_bind (fd.at ?_)))))))
 show wpAny _ _ (Builtin.ObjectAttr.bindTo _ _ _ _) _ _ _
 unfold Builtin.ObjectAttr.bindTo
 refine wpAny_bind (wpAny_holding (wpAny_call (exc_clsget (s:={ s with toks:=s.toks + 1 }) X I c ?_)))
 refine wpAny_pure ?_
 show wpAny _ _ (handedOut (.ref C)) _ _ _
 rw [handedOut_of rfl]
 exact wpAny_pure (wpAny_pure h)
end
theorem kitx_exc {K:Frag} {x C:Addr} (c:ExcCls K C):KitX K (.ref x) (.ref C) (ExcAt x C) where
 ty:=fun _ _ _ I=>I.ty
 it:=fun _ _ X _=>by
  have hc:=c.cl
  unfold clsIn at hc
  split at hc
  ·rename_i ho
   intro A' Q' E' s' k q
   unfold isType loadHead
   exact wpAny_bind (wpAny_loadPart (k _ _ (X _ _ ho)) (wpAny_pure q))
  ·cases hc
 ne:=fun h tp dd its n sl X htp=>by
  have hc:=c.cl
  refine Bool.eq_false_iff.mpr fun q=>?_
  have e:C=tp:=Value.ref.inj (beq_iff_eq.mp q)
  subst e
  unfold clsIn at hc
  split at hc
  ·rename_i ho
   have z:=(X _ _ ho).symm.trans htp
   cases z
  ·cases hc
 ca:=fun X I k=>exc_class X I c k
end DW
end
section
set_option autoImplicit false
set_option maxHeartbeats 2000000
namespace DW
open PySem PySem.W PySem.Spec PyProof.Rows L2
structure Fly (outer:List Env) (H H':Hp) (h h':Heap) (B:Heap) (ea:Addr) (ob:Obj) (vs:Array Value) (P:Program) (w:World):Prop where
 un:Un (frs outer) [] H H' h h'
 hok:HOk P w H' h'
 fl:FlyX B outer ea ob vs .none h'
 ctx:vs[2]? = some .none
 old:∀ b o,h.get? b=some o→b ∉ frs outer→∃ o',B.get? b=some o'
 trk:∀ b u,H' b=some u→∃ o,B.get? b=some o
noncomputable def CXE (P:Program) (w:World):CXT:=fun outer H s E e s' =>
 ∃ (ea:Addr) (ob:Obj) (vs:Array Value) (B:Heap) (H':Hp),e = .ref ea∧s'.os=s.os∧AllBare s'.gens∧Fly outer H H' s.heap s'.heap B ea ob vs P w∧E ob.cls ob.dict H'
structure Leaves (X:Cx) (E:XK):Prop where
 stk:X.stack=X.env :: X.outer
 fr:X.env.frame=some X.env.locals
 ex:X.ex=[]
 xe:X.xe=fun e s'=>wpAny (model X.prog X.w) X.A (leaving X.env e) (fun _ s''=>CXE X.prog X.w X.outer X.H₀ X.s₀ E e s'') (fun e' s''=>CXE X.prog X.w X.outer X.H₀ X.s₀ E e' s'') s'
theorem leaves_cx {P:Program} {w:World} {K:Frag} {mg:Str→Option Value} {base:Heap} {N:List Str} {qual:Str} {scope:Scope} {f:Addr} {cd:Value} {A:Around} {outer:List Env} {s:Shared} {H:Hp} {E:XK} :
  Leaves (cxOf (CXE P w) P w K mg base N qual scope f cd A outer s H E) E:=⟨rfl,rfl,rfl,rfl⟩
theorem un_fly {fs:List Addr} {H0 H:Hp} {h0 h h' B:Heap} {fr:List Addr} (u:Un fs [] H0 H h0 h) (hB:∀ b o,(∃ o0,h0.get? b=some o0)→h.get? b=some o→b ∉ fr→B.get? b=some o) (st:B.StaysIn h')
  (up:∀ b∈fr,∀ o,h.get? b=some o→∃ sl,h'.get? b=some { o with slots:=sl }) (nl:∀ b o,h0.get? b=some o→b∈fr→b∈fs):Un fs [] H0 H h0 h' where
 keep:=fun b o q n hb hx=>by
  have e:=u.keep b o q n hb hx
  exact st b o (hB b o ⟨o,q⟩ e fun z=>hb (nl b o q z))
 slot:=fun b o q n hb hx=>by
  obtain ⟨sl,e⟩:=u.slot b o q n hb hx
  by_cases z:b∈fr
  ·obtain ⟨sl',e'⟩:=up b z _ e
   exact ⟨sl',e'⟩
  ·exact ⟨sl,st b _ (hB b _ ⟨o,q⟩ e z)⟩
 free:=u.free
 there:=fun b o q hx=>by
  obtain ⟨o',e⟩:=u.there b o q hx
  by_cases z:b∈fr
  ·obtain ⟨sl',e'⟩:=up b z _ e
   exact ⟨_,e'⟩
  ·exact ⟨o',st b _ (hB b _ ⟨o,q⟩ e z)⟩
 tups:=u.tups
 frzs:=u.frzs
 tbls:=u.tbls
theorem hok_fly {P:Program} {w:World} {H:Hp} {h h' B:Heap} (hok:HOk P w H h) (hB:∀ b u,H b=some u→∃ o,B.get? b=some o) (s1:B.StaysIn h) (st:B.StaysIn h'):HOk P w H h':=fun a o e=>by
 have k:∀ b v,H b≠none→h.get? b=some v→h'.get? b=some v:=fun b v hb hv=>by
  cases q:H b with
  | none=>exact absurd q hb
  | some u =>
   obtain ⟨o',e'⟩:=hB b u q
   have:=s1 b o' e'
   rw [hv] at this; cases this
   exact st b _ e'
 refine (hok a o e).stay (fun b u hb q=>k b u ?_ q) (fun _ q=>q) fun _ _ q=>q
 rcases hb with rfl | z
 ·rw [e]; simp
 ·rw [z]; simp
theorem obj_there {P:Program} {w:World} {H:Hp} {h:Heap} {a:Addr} {o:HO} (x:ObjOk P w H h a o):∃ ob,h.get? a=some ob:=by
 induction o with
 | lst xs=>obtain ⟨_,_,_,_,e⟩:=x; exact ⟨_,e⟩
 | tup xs=>obtain ⟨_,_,_,ob,e,_⟩:=x; exact ⟨_,e⟩
 | dK kvs=>obtain ⟨_,_,_,_,o,_,_,e,_⟩:=x; exact ⟨_,e⟩
 | dT kvs=>obtain ⟨_,_,_,_,o,_,_,e,_⟩:=x; exact ⟨_,e⟩
 | set S n=>obtain ⟨o,_,_,_,e,_⟩:=x; exact ⟨_,e⟩
 | ins C dx fs=>obtain ⟨_,_,_,e,_⟩:=x; exact ⟨_,e⟩
 | own y=>exact x
 | xd fs=>obtain ⟨_,⟨_,_,_,e,_⟩,_⟩:=x; exact ⟨_,e⟩
 | rng lo hi=>obtain ⟨_,_,_,e⟩:=x; exact ⟨_,e⟩
 | frz ob u ih=>obtain ⟨e,_⟩:=x; exact ⟨_,e⟩
 | tbl ps=>exact ⟨_,x⟩
 | met f y=>exact ⟨_,x⟩
 | ext φ=>obtain ⟨_,e,_⟩:=x; exact e
section
variable {X:Cx} {E E':XK} {pins:List (Addr×Obj)} {σ:L2.St} {H:Hp} {s s':Shared} {e:Value}
theorem fr_up {l:List Env} {base h h':Heap} (F:h.FunFrames base l) (up:h.UpToSlots h'):∀ b∈frs l,∀ o,h.get? b=some o→∃ sl,h'.get? b=some { o with slots:=sl }:=fun b hb o ho=>by
 obtain ⟨_,o',e',nf⟩:=F.mem hb
 rw [ho] at e'; cases e'
 exact up b o ho nf
theorem frs_eq (L:Leaves X E):frs X.stack=X.env.locals :: X.fs:=by rw [L.stk]; unfold frs; rw [List.filterMap_cons,L.fr]; rfl
theorem old_out (L:Leaves X E) (I:Inv X pins σ H s) {b:Addr} {o:Obj} (q:X.s₀.heap.get? b=some o) (z:b∈frs X.stack):b∈X.fs:=by
 rw [frs_eq L] at z
 rcases List.mem_cons.mp z with z | z
 ·exact absurd (Heap.lt_size q) (by rw [z]; exact Nat.not_lt.mpr I.ok.above)
 ·exact z
theorem raise_x {ea:Addr} {ob:Obj} {ws:Array Value} (L:Leaves X E) (I:Inv X pins σ H s) (he:s.heap.get? ea=some { ob with data:=.fields ws }) (h0:X.s₀.heap.get? ea=none) (hn:H ea=none) (z:2 < ws.size) (h1:ws[1]? = some .none) (h2:ws[2]? = some .none)
  (hE:E ob.cls ob.dict H):X.xe (.ref ea) s:=by
 rw [L.xe]
 have hfr:X.A.frames=some (X.env :: X.outer):=by rw [I.ok.frames,L.stk]
 have F:=I.stack
 have nf:ea ∉ frs X.stack:=fun q=>by
  obtain ⟨_,o,ho,nf⟩:=F.mem q
  rw [he] at ho; cases ho; exact nf ws rfl
 have hm:∀ env∈X.stack,∀ a,env.frame=some a→a∈ea :: frs X.stack:=fun env he a ha=>List.mem_cons_of_mem _ (List.mem_filterMap.mpr ⟨env,he,ha⟩)
 have F2:s.heap.FunFrames (hideAll s.heap (ea :: frs X.stack)) (X.env :: X.outer):=by rw [← L.stk]; exact funFrames_hide F hm
 have hB:∀ b o,s.heap.get? b=some o→b≠ea→b ∉ frs X.stack→(hideAll s.heap (ea :: frs X.stack)).get? b=some o:=fun b o q n z=>hideAll_get _ q fun y=>(List.mem_cons.mp y).elim n z
 have old:∀ b o,X.s₀.heap.get? b=some o→b≠ea:=fun b o q z=>by subst z; rw [h0] at q; cases q
 refine leave_x (B:=hideAll s.heap (ea :: frs X.stack)) hfr F2 L.fr he (fun b o q=>of_hideAll _ q) (hideAll_none _ List.mem_cons_self) z (.inl h1) fun h3 fl up=>?_
 have hbase:Un X.fs [] X.H₀ H X.s₀.heap s.heap:=by have:=I.base; rw [L.ex] at this; exact this
 have trk:∀ b u,H b=some u→∃ o,(hideAll s.heap (ea :: frs X.stack)).get? b=some o:=fun b u q=>by
  have nb:b ∉ frs X.stack:=fun z=>by rw [I.stkFree b z] at q; cases q
  obtain ⟨o,ho⟩:∃ o,s.heap.get? b=some o:=obj_there (I.hok b u q)
  exact ⟨o,hB b o ho (fun z=>by rw [z,hn] at q; cases q) nb⟩
 refine ⟨ea,ob,ws,hideAll s.heap (ea :: frs X.stack),H,rfl,I.os,I.bare,⟨?_,?_,fl,h2,?_,trk⟩,hE⟩
 ·exact un_fly hbase (fun b o ⟨o0,q0⟩ q z=>hB b o q (old b o0 q0) z) fl.stay (fr_up F up) fun b o q z=>old_out L I q z
 ·exact hok_fly I.hok trk (fun b o q=>of_hideAll _ q) fl.stay
 ·intro b o q z
  obtain ⟨o',e'⟩:=hbase.there b o q (by simp)
  exact ⟨o',hB b o' e' (old b o q) fun y=>z (old_out L I q y)⟩
theorem fly_inv {H':Hp} {B:Heap} {ea:Addr} {ob:Obj} {vs:Array Value} (I:Inv X pins σ H s) (ho:s'.os=s.os) (hg:AllBare s'.gens) (F:Fly X.stack H H' s.heap s'.heap B ea ob vs X.prog X.w):Inv X pins σ H' s' :=
 I.call' (ch:=[]) ho F.un F.hok hg fun b z=>absurd z (by simp)
theorem call_xe (L:Leaves X E) (I:Inv X pins σ H s) (hE:∀ cls dx H',E' cls dx H'→E cls dx H') (h:CXE X.prog X.w X.stack H s E' e s'):X.xe e s':=by
 obtain ⟨ea,ob,vs,B,H',rfl,ho,hg,F,q⟩:=h
 have I':=fly_inv I ho hg F
 rw [L.xe]
 have hfr:X.A.frames=some (X.env :: X.outer):=by rw [I.ok.frames,L.stk]
 have fl:=F.fl
 have F0:s'.heap.FunFrames B X.stack:=fl.fun_
 rw [L.stk] at fl
 have hbase:Un X.fs [] X.H₀ H' X.s₀.heap s'.heap:=by have:=I'.base; rw [L.ex] at this; exact this
 have hbase0:Un X.fs [] X.H₀ H X.s₀.heap s.heap:=by have:=I.base; rw [L.ex] at this; exact this
 refine leave_on hfr L.fr fl fun h2 fl2 up=>?_
 have inB:∀ b,(∃ o0,X.s₀.heap.get? b=some o0)→b ∉ frs X.stack→∃ o',B.get? b=some o':=fun b ⟨o0,q0⟩ z=>by
  obtain ⟨o1,e1⟩:=hbase0.there b o0 q0 (by simp)
  exact F.old b o1 e1 z
 refine ⟨ea,ob,vs,B,H',rfl,I'.os,I'.bare,⟨?_,?_,fl2,F.ctx,?_,F.trk⟩,hE _ _ H' q⟩
 ·refine un_fly hbase (fun b o hb q0 z=>?_) fl2.stay (fr_up F0 up) fun b o q0 z=>old_out L I q0 z
  obtain ⟨o',e'⟩:=inB b hb z
  have:=fl.stay b o' e'
  rw [q0] at this; cases this
  exact e'
 ·exact hok_fly F.hok F.trk fl.stay fl2.stay
 ·intro b o q0 z
  exact inB b ⟨o,q0⟩ fun y=>z (old_out L I q0 y)
end
end DW
end
section
set_option autoImplicit false
set_option maxHeartbeats 2000000
namespace DW
open PySem PySem.W PySem.Spec PyProof.Rows L2
abbrev bmVE:List Value:=[.type "ValueError",.type "Exception",.type "BaseException",.type "object"]
section
variable {X:Cx} {E:XK} {x:Str} {C:Addr} {np cpos pos:Pos} {args:List Expr} {t:TA}
end
noncomputable def Meets (X:Cx) (EX:L2.St→XK):Prop:=∀ (pins:List (Addr×Obj)) (σ:L2.St) (H:Hp) (s:Shared) (E':XK) (e:Value) (s':Shared),Inv X pins σ H s→(∀ cls dx H',E' cls dx H'→EX σ cls dx H')→CXE X.prog X.w X.stack H s E' e s'→X.xe e s'
theorem meets_of {X:Cx} {E:XK} (L:Leaves X E):Meets X fun _=>E:=fun pins σ H s E' e s' I hE h=>call_xe L I hE h
section
variable {X:Cx} {EX:L2.St→XK} {k:Nat} {f C:Addr} {fd:FuncData} {ps:List Str} {sp:Sp} {x m:Str} {p pos apos:Pos} {e o:Expr} {es:List Expr} {ta:TE} {t:TA}
theorem run_fnX {pins:List (Addr×Obj)} {σ:L2.St} {H:Hp} {s:Shared} {Q:VK} {us:List Value} {vs:List V} (F:FnOk X.prog X.w X.K X.mg X.base (CXE X.prog X.w) k f fd ps sp) (hr:Room k X.A) (hb:Binds X.K fd ps []) (M:Meets X EX)
  (I:Inv X pins σ H s) (r:Vals vs us) (h:sp vs H Q (EX σ)):wpAny (model X.prog X.w) X.A (call (.ref f) us) (EP X pins σ Q) X.xe s:=by
 have hl:us.length=ps.length:=by rw [← r.length]; exact F.len _ _ _ _ h
 have hb':=hb s us I.kIn (by simpa using hl)
 rw [List.append_nil] at hb'
 refine wpAny_call (codeAny_mono (F.run X.A X.stack s H ⟨us,[]⟩ us vs Q (EX σ) hr I.env0 hb' r h) fun r s' hq=>?_)
 cases r with
 | error e=>exact M pins σ H s (EX σ) e s' I (fun _ _ _ z=>z) hq
 | ok fl =>
  cases fl with
  | ret u=>exact I.after hq
  | next=>exact False.elim hq
  | brk=>exact False.elim hq
  | cont=>exact False.elim hq
theorem pe_callX (F:FnOk X.prog X.w X.K X.mg X.base (CXE X.prog X.w) k f fd ps sp) (hr:Room k X.A) (hg:Gl X x) (hm:X.mg x=some (.ref f)) (hk:PySem.W.keepIn X.K (.ref f)=true) (hb:Binds X.K fd ps []) (M:Meets X EX)
  (ha:PA X (e :: es) t) (hdb:(x == ("__debug__" : Str))=false) (he:starEach (e :: es) X.env=(false,eval e X.env) :: starEach es X.env) (hpl:(backTo pos (starEach es X.env)).any (·.1)=false) :
  PE X (.Call (.Name x p) (e :: es) [] pos) (fun σ H Q=>t σ H fun vs H1=>sp vs H1 Q (EX σ)):=by
 intro pins s σ H Q I h
 refine wpAny_Call_Name_kw (ld_glob I hg hm ?_ hdb)
 refine PySem.W.callWith_K (h₀:=X.base) I.ok.mod.kin hk (thn (ha pos pins s σ H _ I h) fun us s1 ⟨vs,H1,I1,r,q⟩=>⟨I1.kIn,?_⟩) he hpl
 exact run_fnX F hr hb M I1 r q
theorem pe_callX0 (F:FnOk X.prog X.w X.K X.mg X.base (CXE X.prog X.w) k f fd ps sp) (hr:Room k X.A) (hg:Gl X x) (hm:X.mg x=some (.ref f)) (hk:PySem.W.keepIn X.K (.ref f)=true) (hb:Binds X.K fd ps []) (M:Meets X EX)
  (hdb:(x == ("__debug__" : Str))=false):PE X (.Call (.Name x p) [] [] pos) (fun σ H Q=>sp [] H Q (EX σ)):=by
 intro pins s σ H Q I h
 refine wpAny_Call_Name_kw (ld_glob I hg hm ?_ hdb)
 exact PySem.W.callWith_K0 I.kIn hk (run_fnX (us:=[]) F hr hb M I .nil h)
end
end DW
end
section
set_option autoImplicit false
set_option maxHeartbeats 2000000
namespace DW
open PySem PySem.W PySem.Spec PyProof.Rows L2
noncomputable def Xh (X:Cx) (ea:Addr):Cx:={ X with A:=X.A.mark (some (.ref ea)),calm:=false,xe:=fun _ _=>False }
section
variable {X:Cx} {pins:List (Addr×Obj)} {σ:L2.St} {H H':Hp} {s s':Shared} {ea:Addr} {oe:Obj}
theorem ok_h (ok:X.Ok):(Xh X ea).Ok:=⟨ok.mod,ok.kind,ok.glob,ok.blt,ok.above,ok.inj,ok.has,ok.cab,fun z=>(Bool.false_ne_true z).elim,ok.frames,ok.stk,ok.exf,ok.bs,ok.bsz,ok.noex,ok.exfs,ok.funs,ok.frf⟩
theorem inv_h {oe:Obj} {u:HO} {vs:Array Value} (I:Inv X pins σ H s) (he:H ea=some (.frz oe u)) (hd:oe.data = .fields vs) (h2:vs[2]? = some .none):Inv (Xh X ea) pins σ H s :=
 ⟨ok_h I.ok,I.os,I.bare,I.base,I.loc,I.cell,I.free,I.freeC,I.pin,I.hok,I.len,fun v q=>⟨ea,oe,u,vs,(Option.some.inj (show some (Value.ref ea)=some v from q)).symm,he,hd,h2⟩⟩
theorem inv_unh (hc:X.calm=true) (ok:X.Ok) (I:Inv (Xh X ea) pins σ H s):Inv X pins σ H s :=
 ⟨ok,I.os,I.bare,I.base,I.loc,I.cell,I.free,I.freeC,I.pin,I.hok,I.len,fun v q=>by rw [ok.hd hc] at q; cases q⟩
theorem inv_track {a:Addr} {o:Obj} {φ:Heap→Prop} (I:Inv X pins σ H s) (hn:H a=none) (ho:s.heap.get? a=some o) (h0:X.s₀.heap.get? a=none) (hl:a≠X.env.locals) (hc:∀ v,o.data≠.cell v) (hp:∀ p∈X.pn ++ pins,p.1≠a)
  (hφ:φ s.heap) (hst:∀ h1 h2:Heap,φ h1→(∀ o,h1.get? a=some o→h2.get? a=some o)→φ h2):Inv X pins σ (upd H a (.frz o (.ext φ))) s:=by
 have ne:∀ b u,H b=some u→b≠a:=fun b u e=>ne_of_none e hn
 refine ⟨I.ok,I.os,I.bare,⟨I.base.keep,I.base.slot,fun b ob q n hx=>?_,I.base.there,fun b xs q=>?_,fun b ob u q=>?_,fun b ps q=>?_⟩,I.loc,I.cell,?_,fun x c e=>?_,fun p hpp=>?_,fun b u e=>?_,I.len,I.hh.mono fun b o u q=>by rw [upd_ne (ne b _ q)]; exact q⟩
 ·have:b≠a:=by rintro rfl; rw [h0] at q; cases q
  rw [upd_ne this]; exact I.base.free b ob q n hx
 ·have:=I.base.tups b xs q
  rw [upd_ne (ne b _ this)]; exact this
 ·have:=I.base.frzs b ob u q
  rw [upd_ne (ne b _ this)]; exact this
 ·obtain ⟨more,this⟩:=I.base.tbls b ps q
  exact ⟨more,by rw [upd_ne (ne b _ this)]; exact this⟩
 ·rw [upd_ne (Ne.symm hl)]; exact I.free
 ·obtain ⟨v,oc,q1,q2⟩:=I.cell x c e
  have:c≠a:=by rintro rfl; rw [ho] at q1; cases q1; exact hc v q2
  rw [upd_ne this]; exact I.freeC x c e
 ·obtain ⟨q1,q2,q3,q4,q5⟩:=I.pin p hpp
  exact ⟨q1,by rw [upd_ne (hp p hpp)]; exact q2,q3,q4,q5⟩
 ·by_cases hb:b=a
  ·subst hb
   rw [upd_same] at e; cases e
   exact ⟨ho,hφ,⟨o,ho⟩,hst⟩
  ·rw [upd_ne hb] at e
   exact (I.hok b u e).stay (fun _ _ _ q=>q) (fun c q=>by rw [upd_ne (ne c _ q)]; exact q) fun c xs q=>by rw [upd_ne (ne c _ q)]; exact q
theorem inv_fly {B:Heap} {h':Heap} {tk:Nat} (ex:X.ex=[]) (stk:X.stack=X.env :: X.outer) (fr:X.env.frame=some X.env.locals) (I0:Inv X pins σ H s) (I:Inv X pins σ H' s')
  (old:∀ b o,s.heap.get? b=some o→b ∉ frs X.stack→∃ o',B.get? b=some o') (trk:∀ b u,H' b=some u→∃ o,B.get? b=some o) (s1:B.StaysIn s'.heap) (s2:B.StaysIn h') (up:s'.heap.UpToSlots h') (F0:s'.heap.FunFrames B X.stack) :
  Inv X pins σ H' { s' with heap:=h',toks:=tk }:=by
 have hfrs:frs X.stack=X.env.locals :: X.fs:=by rw [stk]; unfold frs; rw [List.filterMap_cons,fr]; rfl
 have out:∀ b o,X.s₀.heap.get? b=some o→b∈frs X.stack→b∈X.fs:=fun b o q z=>by
  rw [hfrs] at z
  rcases List.mem_cons.mp z with z | z
  ·exact absurd (Heap.lt_size q) (by rw [z]; exact Nat.not_lt.mpr I.ok.above)
  ·exact z
 have kept:∀ b o0 o,s.heap.get? b=some o0→b ∉ frs X.stack→s'.heap.get? b=some o→B.get? b=some o:=fun b o0 o q0 z q=>by
  obtain ⟨o',e'⟩:=old b o0 q0 z
  have:=s1 b o' e'
  rw [q] at this; cases this
  exact e'
 have hbase:Un X.fs [] X.H₀ H' X.s₀.heap s'.heap:=by have:=I.base; rw [ex] at this; exact this
 have hbase0:Un X.fs [] X.H₀ H X.s₀.heap s.heap:=by have:=I0.base; rw [ex] at this; exact this
 have fup:=fr_up F0 up
 have cellK:∀ x c v,X.env.cells.lookup x=some c→s'.heap.IsCell c v→h'.IsCell c v:=fun x c v e ⟨o,ho,hd⟩=>by
  by_cases z:c∈frs X.stack
  ·obtain ⟨sl,e'⟩:=fup c z o ho
   exact ⟨_,e',hd⟩
  ·obtain ⟨v0,o0,h0,_⟩:=I0.cell x c e
   exact ⟨o,s2 c o (kept c o0 o h0 z ho),hd⟩
 refine ⟨I.ok,I.os,I.bare,?_,?_,fun x c e=>?_,I.free,I.freeC,fun p hp=>?_,hok_fly I.hok trk s1 s2,I.len,I.hh⟩
 ·rw [ex]
  refine un_fly hbase (fun b o ⟨o0,q0⟩ q z=>?_) s2 fup out
  obtain ⟨o1,e1⟩:=hbase0.there b o0 q0 (by simp)
  exact kept b o1 o e1 z q
 ·obtain ⟨m,hn,hl⟩:=I.loc
  refine ⟨m,up.ns hn,fun i x v e1 e2 e3=>?_⟩
  obtain ⟨u,r,l⟩:=hl i x v e1 e2 e3
  refine ⟨u,r,?_⟩
  rcases l with l | ⟨k,c,e,z⟩
  ·exact .inl l
  ·exact .inr ⟨k,c,e,cellK x c _ e z⟩
 ·obtain ⟨v,hv⟩:=I.cell x c e
  exact ⟨v,cellK x c v e hv⟩
 ·obtain ⟨q1,q2,q3,q4,q5⟩:=I.pin p hp
  obtain ⟨p1,_,_,_,_⟩:=I0.pin p hp
  refine ⟨s2 _ _ (kept p.1 _ _ p1 ?_ q1),q2,q3,q4,q5⟩
  rw [hfrs]
  intro z
  rcases List.mem_cons.mp z with z | z
  ·exact q3 z
  ·exact q4 z
theorem inv_gone {h':Heap} {m':Str→Option Value} {tk:Nat} (I:Inv X pins σ H s) (hn':h'.Ns X.env.locals m') (hs:Heap.SameBut X.env.locals s.heap h'):Inv X pins (List.replicate X.N.length none) H { s with heap:=h',toks:=tk }:=by
 have neL:∀ b o,X.s₀.heap.get? b=some o→b≠X.env.locals:=fun b o e=>Nat.ne_of_lt (Nat.lt_of_lt_of_le (Heap.lt_size e) I.ok.above)
 have k:∀ b o,b≠X.env.locals→s.heap.get? b=some o→h'.get? b=some o:=fun b o hb q=>(hs.2 b hb).trans q
 refine ⟨I.ok,I.os,I.bare,⟨fun b o e n hb hx=>k b o (neL b o e) (I.base.keep b o e n hb hx),fun b o e n hb hx=>?_,I.base.free,fun b o e hx=>?_,I.base.tups,I.base.frzs,I.base.tbls⟩,⟨m',hn',fun j y v' e1 e2 e3=>?_⟩,fun y c e=>?_,I.free,I.freeC,fun p hp=>?_,fun b u e=>?_,by simp,I.hh⟩
 ·obtain ⟨sl,e1⟩:=I.base.slot b o e n hb hx
  exact ⟨sl,k b _ (neL b o e) e1⟩
 ·obtain ⟨o',e1⟩:=I.base.there b o e hx
  exact ⟨o',k b _ (neL b o e) e1⟩
 ·rw [List.getElem?_replicate] at e2
  split at e2 <;> cases e2
 ·obtain ⟨v,o,ho,hd⟩:=I.cell y c e
  exact ⟨v,o,k c o (I.cne y c e) ho,hd⟩
 ·obtain ⟨q1,q2,q3,q4,q5⟩:=I.pin p hp
  exact ⟨k _ _ q3 q1,q2,q3,q4,q5⟩
 ·refine (I.hok b u e).stay (fun c v hc q=>k c v ?_ q) (fun _ q=>q) fun _ _ q=>q
  rintro rfl
  rcases hc with rfl | hc
  ·rw [I.free] at e; cases e
  ·rw [I.free] at hc; cases hc
theorem cell_goes {M:Model} {A:Around} {E:Value→Shared→Prop} {env:Env} {n:Str} {pos:Pos} {c:Addr} {v:Option Value} {Q:Unit→Shared→Prop} {s:Shared} (hk:env.scope.kind = .function) (hl:env.kindOf n=some .cell) (hc:env.cells.lookup n=some c) (hv:s.heap.IsCell c v)
  (h:∀ h',h'.IsCell c none→Heap.SameBut c s.heap h'→Q () { s with heap:=h' }):wpAny M A (do bindName env n .none; unbindBehindTheSuite env n pos) Q E s:=by
 refine wpAny_bind (wpAny_bindName (wpAny_storeName_cell hk hl hc hv fun h1 v1 s1=>?_))
 unfold unbindBehindTheSuite unbindName
 refine wpAny_onRaise (wpAny_bind (wpAny_point (wpAny_bind ?_)))
 unfold deleteName
 simp only [hl]
 refine wpAny_bind (wpAny_cellOf hc (wpAny_bind (wpAny_cellGet v1 ?_)))
 simp only [Option.isSome_some,if_true]
 exact wpAny_cellSet v1 fun h2 v2 s2=>wpAny_point (h h2 v2 (s1.trans s2))
theorem inv_goneC {h':Heap} {n:Str} {c:Addr} (I:Inv X pins σ H s) (hc:X.env.cells.lookup n=some c) (hf:X.fn n=true) (hv:h'.IsCell c none) (hs:Heap.SameBut c s.heap h'):Inv X pins (List.replicate X.N.length none) H { s with heap:=h' }:=by
 have neC:∀ b o,X.s₀.heap.get? b=some o→b≠c:=fun b o e=>Nat.ne_of_lt (Nat.lt_of_lt_of_le (Heap.lt_size e) (I.ok.cab n c hf hc))
 have k:∀ b o,b≠c→s.heap.get? b=some o→h'.get? b=some o:=fun b o hb q=>(hs.2 b hb).trans q
 obtain ⟨vc,oc,hoc,hdc⟩:=I.cell n c hc
 refine ⟨I.ok,I.os,I.bare,⟨fun b o e n hb hx=>k b o (neC b o e) (I.base.keep b o e n hb hx),fun b o e n hb hx=>?_,I.base.free,fun b o e hx=>?_,I.base.tups,I.base.frzs,I.base.tbls⟩,?_,fun y c' e=>?_,I.free,I.freeC,fun p hp=>?_,fun b u e=>?_,by simp,I.hh⟩
 ·obtain ⟨sl,e1⟩:=I.base.slot b o e n hb hx
  exact ⟨sl,k b _ (neC b o e) e1⟩
 ·obtain ⟨o',e1⟩:=I.base.there b o e hx
  exact ⟨o',k b _ (neC b o e) e1⟩
 ·obtain ⟨m,hn,_⟩:=I.loc
  refine ⟨m,hn.sameBut hs (Ne.symm (I.cne n c hc)),fun j y v' e1 e2 e3=>?_⟩
  rw [List.getElem?_replicate] at e2
  split at e2 <;> cases e2
 ·by_cases q:c'=c
  ·subst q; exact ⟨none,hv⟩
  ·obtain ⟨v,o,ho,hd⟩:=I.cell y c' e
   exact ⟨v,o,k c' o q ho,hd⟩
 ·obtain ⟨q1,q2,q3,q4,q5⟩:=I.pin p hp
  refine ⟨k _ _ ?_ q1,q2,q3,q4,q5⟩
  intro z
  rw [z,hoc] at q1; cases q1
  exact q5 vc hdc
 ·refine (I.hok b u e).stay (fun d v hd q=>k d v ?_ q) (fun _ q=>q) fun _ _ q=>q
  rintro rfl
  have fc:=I.freeC n d hc
  rcases hd with rfl | hd
  ·rw [fc] at e; cases e
  ·rw [fc] at hd; cases hd
end
noncomputable def Xb (X:Cx) (pn:List (Addr×Obj)) (ξ:Value→Shared→Prop):Cx:={ X with pn:=X.pn ++ pn,xe:=ξ }
section
variable {X:Cx} {pins pn:List (Addr×Obj)} {σ:L2.St} {H:Hp} {s:Shared} {ξ:Value→Shared→Prop}
theorem ok_b (ok:X.Ok):(Xb X pn ξ).Ok:=⟨ok.mod,ok.kind,ok.glob,ok.blt,ok.above,ok.inj,ok.has,ok.cab,ok.hd,ok.frames,ok.stk,ok.exf,ok.bs,ok.bsz,ok.noex,ok.exfs,ok.funs,ok.frf⟩
theorem ok_unb (ok:(Xb X pn ξ).Ok):X.Ok:=⟨ok.mod,ok.kind,ok.glob,ok.blt,ok.above,ok.inj,ok.has,ok.cab,ok.hd,ok.frames,ok.stk,ok.exf,ok.bs,ok.bsz,ok.noex,ok.exfs,ok.funs,ok.frf⟩
theorem inv_b (I:Inv X pn σ H s):Inv (Xb X pn ξ) [] σ H s :=
 ⟨ok_b I.ok,I.os,I.bare,I.base,I.loc,I.cell,I.free,I.freeC,fun p hp=>I.pin p (by simpa [Xb] using hp),I.hok,I.len,I.hh⟩
theorem inv_unb (I:Inv (Xb X pn ξ) pins σ H s):Inv X pn σ H s :=
 ⟨ok_unb I.ok,I.os,I.bare,I.base,I.loc,I.cell,I.free,I.freeC,fun p hp=>I.pin p (List.mem_append_left _ hp),I.hok,I.len,I.hh⟩
theorem sp_unb {D:Ends} {f:Flow} (h:SP (Xb X pn ξ) pins D f s):SP X pn D f s:=by
 cases f with
 | next=>obtain ⟨σ',H',I,q⟩:=h; exact ⟨σ',H',inv_unb I,q⟩
 | brk=>obtain ⟨σ',H',I,q⟩:=h; exact ⟨σ',H',inv_unb I,q⟩
 | cont=>obtain ⟨σ',H',I,q⟩:=h; exact ⟨σ',H',inv_unb I,q⟩
 | ret u=>obtain ⟨v,σ',H',I,r,q⟩:=h; exact ⟨v,σ',H',inv_unb I,r,q⟩
end
section
variable {X:Cx} {i:Nat} {n P:Str} {np hpos pos:Pos} {b₀:Stmt} {suite body:List Stmt} {CP:Addr} {tb:(L2.St→XK)→TS} {th:TS}
noncomputable def takes (X:Cx) (CP:Addr) (i:Nat) (th:TS) (D:Ends):L2.St→XK:=fun σ' cls dx H'=>∃ C,cls = .ref C∧exmOne X.K (.ref C) (.ref CP)=some true ∧
 ∀ ea oe u,H' ea=none→oe.cls = .ref C→PySem.W.notCls oe=true→oe.dict=dx→th { nx:=fun _ _=>False,rt:=D.rt } (σ'.set i (some (.ref ea))) (upd H' ea (.frz oe u))
theorem ps_try (hc:X.calm=true) (ex:X.ex=[]) (stk:X.stack=X.env :: X.outer) (fr:X.env.frame=some X.env.locals) (hN:X.N.Nodup) (hi:X.N[i]? = some n) (hl:Loc X.env.scope n) (hf:X.fn n=true∨X.env.scope.names.lookup n=some .local)
  (hg:Gl X P) (hm:X.mg P=some (.ref CP)) (hd:(P == ("__debug__" : Str))=false)
  (hb:∀ (pn:List (Addr×Obj)) (ξ:Value→Shared→Prop) (EX:L2.St→XK),Meets (Xb X pn ξ) EX→PassesOwn (model X.prog X.w) X.A X.env ξ→PSs (Xb X pn ξ) body (tb EX))
  (hh:∀ ea,PSs (Xh X ea) (b₀ :: suite) th) :
  PS X (.Try body [.ExceptHandler (some (.Name P np)) (some n) (b₀ :: suite) hpos] [] [] pos) (fun D σ H=>tb (takes X CP i th D) D σ H):=by
 intro pins s σ H D I h
 refine wpAny_Try_except ?_
 refine wpAny_mono (hb pins (fun e s₁=>wpAny (model X.prog X.w) X.A (noteFrame e X.env) (fun _ s₂=>wpAny (model X.prog X.w) X.A (setFlight e none) (fun _ s₃ =>
   wpAny (model X.prog X.w) X.A (handleBy e X.env [.ExceptHandler (some (.Name P np)) (some n) (b₀ :: suite) hpos]) (SP X pins D) X.xe s₃) X.xe s₂) X.xe s₁)
  (takes X CP i th D) ?_ PassesOwn.looking [] s σ H D (inv_b I) h) (fun f s1 q=>?_) fun _ _ q=>q
 ·intro pins2 σ1 H1 s1 E' e s' I1 hE hx
  obtain ⟨ea,ob,vs,B,H',rfl,ho,hgn,F,q⟩:=hx
  have I0:Inv X pins σ1 H1 s1:=inv_unb I1
  have I':Inv X pins σ1 H' s':=fly_inv I0 ho hgn F
  obtain ⟨C,hcl,hx1,hx2⟩:=hE _ _ H' q
  have fl:FlyX B (X.env :: X.outer) ea ob vs .none s'.heap:=by have:=F.fl; rw [show (Xb X pins _).stack=X.env :: X.outer from stk] at this; exact this
  have hfr:X.A.frames=some (X.env :: X.outer):=by rw [I.ok.frames,stk]
  have F0:s'.heap.FunFrames B X.stack:=F.fl.fun_
  have step:∀ (h':Heap) (tk:Nat),B.StaysIn h'→s'.heap.UpToSlots h'→Inv X pins σ1 H' { s' with heap:=h',toks:=tk }:=fun h' tk k1 k2=>inv_fly ex stk fr I0 I' F.old F.trk fl.stay k1 k2 F0
  have hea:∀ o,B.get? ea≠some o:=fun o z=>by rw [fl.new] at z; cases z
  have e1:H' ea=none:=by
   cases qq:H' ea with
   | none=>rfl
   | some u=>obtain ⟨o,z⟩:=F.trk ea u qq; exact absurd z (hea o)
  refine note_on hfr fr fl fun h4 fl4 up4=>?_
  refine land_x (s:={ s' with heap:=h4 }) fl4 fun h5 fl5 up5=>?_
  have I5:=step h5 s'.toks fl5.stay (up4.trans up5)
  obtain ⟨T5,he5⟩:=fl5.tr.there
  have nfr:∀ (h':Heap) (o:Obj),h'.get? ea=some o→(∃ vs,o.data = .fields vs)→h'.FunFrames B (X.env :: X.outer)→ea≠X.env.locals∧ea ∉ X.fs:=fun h' o z ⟨vs,zd⟩ FF=>by
   have hn:ea ∉ frs (X.env :: X.outer):=fun hm=>by
    obtain ⟨_,o',ho',nf⟩:=FF.mem hm
    rw [z] at ho'; cases ho'
    exact nf vs zd
   unfold frs at hn
   rw [List.filterMap_cons,fr] at hn
   exact ⟨fun y=>hn (by rw [y]; exact List.mem_cons_self),fun y=>hn (List.mem_cons_of_mem _ y)⟩
  have hfrs:frs X.stack=X.env.locals :: X.fs:=by rw [stk]; unfold frs; rw [List.filterMap_cons,fr]; rfl
  obtain ⟨m1,m2⟩:=nfr h5 _ he5 ⟨_,rfl⟩ fl5.fun_
  have nst:ea ∉ frs X.stack:=by
   rw [hfrs]
   intro z
   rcases List.mem_cons.mp z with z | z
   ·exact m1 z
   ·exact m2 z
  have new1:∀ o,s1.heap.get? ea≠some o:=fun o z=>by
   obtain ⟨o',z'⟩:=F.old ea o z nst
   exact hea o' z'
  have h00:X.s₀.heap.get? ea=none:=by
   cases qq:X.s₀.heap.get? ea with
   | none=>rfl
   | some o =>
    obtain ⟨o1,z1⟩:=I0.base.there ea o qq (by rw [ex]; simp)
    exact absurd z1 (new1 o1)
  have trk:∀ {h:Heap} {oe:Obj} {ws:Array Value},Inv X pins σ1 H' { s' with heap:=h }→h.get? ea=some oe→oe.data = .fields ws→ws[2]? = some .none→Inv (Xh X ea) pins σ1 (upd H' ea (.frz oe (.ext fun _=>True))) { s' with heap:=h }:=fun {h oe ws} J he hd h2=>by
   refine inv_h (u:=.ext fun _=>True) (inv_track (φ:=fun _=>True) J e1 he h00 m1 (fun v z=>by rw [hd] at z; cases z) (fun p hp=>?_) trivial fun _ _ _ _=>trivial) (upd_same) hd h2
   obtain ⟨q1,_⟩:=I0.pin p hp
   rintro rfl
   exact new1 _ q1
  have I5h:=trk I5 he5 rfl (by rw [set_two]; exact F.ctx)
  refine wpAny_handleBy_cons (codeAny_handlers_test (ld_glob (X:=Xh X ea) I5h hg hm ?_ hd)) (by intro q; cases q)
  have LT:Looks (model X.prog X.w) h5 (typeOf (.ref ea)) (.ref C):=ExcAt.ty ⟨_,he5,hcl⟩
  refine (exm_one I5.kIn LT hx1).at ?_
  refine codeAny_handlers_suite_as ?_
  refine land_x (s:={ s' with heap:=h5 }) fl5 fun h6 fl6 up6=>?_
  have I6:=step h6 s'.toks fl6.stay ((up4.trans up5).trans up6)
  obtain ⟨T6,he6⟩:=fl6.tr.there
  have I6h:=trk I6 he6 rfl (by rw [set_two]; exact F.ctx)
  refine store_ok (X:=Xh X ea) (i:=i) (v:=.ref ea) I6h hN hi hl rfl (fun s7 I7=>?_) hf
  refine wpAny_mono (hh ea pins s7 _ _ _ I7 (hx2 ea _ _ e1 hcl rfl rfl)) (fun f s8 z=>?_) fun _ _ z=>z.elim
  cases f with
  | next=>obtain ⟨_,_,_,z⟩:=z; exact z.elim
  | brk=>obtain ⟨_,_,_,z⟩:=z; exact z.elim
  | cont=>obtain ⟨_,_,_,z⟩:=z; exact z.elim
  | ret u =>
   obtain ⟨v,σ8,H8,I8,rv,z⟩:=z
   have I8':=inv_unh hc I.ok I8
   rcases hl with hl | hl
   ·obtain ⟨m,hn,_⟩:=I8'.loc
    refine wpAny_nameGoes (show X.env.kindOf n=some .local from hl) hn (by rw [I.ok.kind]; rfl) fun h9 m9 hn9 hs9=>?_
    exact ⟨v,_,H8,inv_gone I8' hn9 hs9,rv,z⟩
   ·obtain ⟨c,hc⟩:=I.ok.has n (.inl hl)
    obtain ⟨v0,hv0⟩:=I8'.cell n c hc
    have hf':X.fn n=true:=hf.resolve_right fun z=>by rw [hl] at z; cases z
    exact cell_goes I.ok.kind (show X.env.kindOf n=some .cell from hl) hc hv0 fun h9 v9 s9=>⟨v,_,H8,inv_goneC I8' hc hf' v9 s9,rv,z⟩
 ·have q:=sp_unb q
  cases f with
  | next=>exact wpAny_execs_nil q
  | ret v=>exact q
  | brk=>exact q
  | cont=>exact q
end
end DW
end
section
set_option autoImplicit false
set_option maxHeartbeats 2000000
namespace DW
open PySem PySem.W PySem.Spec PyProof.Rows L2 Builtin.ObjectAttr
noncomputable def excLine:List Value→Bool
 | .ref _ :: r=>excLine r
 | l=>l == bmVE
noncomputable def excOver (K:Frag) (C:Addr):Bool:=(clsIn K C).any fun cd=>excLine cd.mro && !cd.mro.isEmpty
theorem refuse_bm (self:Value):refuseLoop self "__setattr__" bmVE=pure ():=by
 first | rfl | kernel_rfl
theorem refuse_exc (self:Value):∀ {l:List Value},excLine l=true→refuseLoop self "__setattr__" l=pure ()
 | .ref c :: r,e=>by rw [refuseLoop_ref]; exact refuse_exc self e
 | [],e=>by simp [excLine] at e
 | .type n :: r,e=>by
  have:(.type n :: r)=bmVE:=by simpa [excLine] using e
  rw [this]; exact refuse_bm self
 | .none :: r,e=>by simp [excLine] at e
section
variable {prog:Program} {w:World} {A:Around} {E:Value→Shared→Prop} {s:Shared} {K:Frag} {x C:Addr} {R:Result→Shared→Prop}
theorem osa_exc {ox:Obj} {od:Option Obj} {name:Str} {tk:Tok} {v:Value} (X:K.In s.heap) (I:InstAt s.heap x ox C od) (hp:excOver K C=true) (ho:mroIn K C (.type "object")=some true) (ht:findIn K (.ref C) name=some none)
  (h:wpAny (model prog w) A.in1 (storeInOwnDict (.ref x) (.ref C) (.str name tk) name v false)
   (fun fin s'=>match fin with | .done f=>R (.ok f) s' | .again c'=>c'.quiet=true∧codeAny (model prog w) A c' R s') (fun e s'=>R (.error e) s') s) :
  codeAny (model prog w) A (.call (.builtin "object.__setattr__") ⟨[.ref x,.str name tk,v],[]⟩) R s:=by
 have SF:=PySem.F.store_object
 obtain ⟨cd,hc,hl⟩:=any_some hp
 rw [Bool.and_eq_true] at hl
 have isO:Looks (model prog w) s.heap (isInstance (.ref x) (.type "object")) true:=I.type.andThen (looks_mroIn X ho)
 have lineOf:Looks (model prog w) s.heap (mroOf (.ref C)) cd.mro:=(looks_clsIn X hc).andThen .now
 have L3:Looks (model prog w) s.heap (storeTaker? none) none:=.now
 refine codeAny_call_builtin SF.slot.plain SF.entry (@check_slot (model prog w) _ _ s "object.__setattr__" "object" "__setattr__" (.ref x) [.str name tk,v] [] _ SF.kind SF.split isO (SF.args (.ref x) (.str name tk) v) ?_)
 rw [osa_eq,refuse_eq]
 refine wpAny_bind (wpAny_bind (I.type.here (wpAny_bind (lineOf.here ?_))))
 rw [refuse_exc _ hl.1]
 refine wpAny_pure (wpAny_bind (I.type.here (wpAny_bind ((looks_findIn X ht).here (wpAny_bind (L3.here ?_))))))
 exact h
theorem own_none {Q:PySem.Fin→Shared→Prop} {o:Obj} {name:Str} {tk:Tok} {v:Value} {b:Bool} (X:K.In s.heap) (hx:s.heap.get? x=some o) (hc:o.cls = .ref C) (hnc:∀ c,o.data≠.cls c) (hdn:o.dict=none) (hh:(clsIn K C).any (·.hasDict)=true)
  (hq:∀ h',h'.Ns1 s.heap.objs.size (fun y=>if y=name then some v else none)→h'.get? x=some { o with dict:=some s.heap.objs.size }→(∀ b ob,b≠x→s.heap.get? b=some ob→h'.get? b=some ob)→Q (.done (.ret .none)) { s with heap:=h',toks:=s.toks + 1 }) :
  wpAny (model prog w) A (storeInOwnDict (.ref x) (.ref C) (.str name tk) name v b) Q E s:=by
 obtain ⟨cd,hcl,hd'⟩:=any_some hh
 obtain ⟨h,g,d,t,os⟩:=s
 obtain ⟨oc,od,odt,osl⟩:=o
 dsimp only at hc hdn hnc
 subst hc hdn
 refine wpAny_bind (wpAny_pure (wpAny_bind (wpAny_bind (wpAny_loadPart hx (wpAny_bind ((looks_clsIn X hcl).here ?_))))))
 rw [hd']
 dsimp only
 rw [if_neg (by simp [typeHasDict])]
 split
 ·rename_i q
  cases q
 split
 ·rename_i c q
  exact absurd rfl (hnc _)
 ·have hx₁:(h.push { cls:=.type "dict",data:=.dict #[] }).get? x=some ⟨.ref C,none,odt,osl⟩:=Heap.get?_push_of_some _ hx
  have hxs:x≠h.objs.size:=Nat.ne_of_lt (Heap.lt_size hx)
  refine wpAny_bind (wpAny_alloc' ?_)
  refine wpAny_bind (wpAny_update' hx₁ ?_)
  refine wpAny_pure ?_
  have hgd:((h.push { cls:=.type "dict",data:=.dict #[] }).update x fun o=>{ cls:=o.cls,dict:=some h.objs.size,data:=o.data,slots:=o.slots }).get? h.objs.size
    = some { cls:=.type "dict",data:=.dict #[] } :=
   (Heap.get?_update_ne _ _ _ _ hxs.symm).trans (Heap.get?_push_at rfl rfl)
  have hnd:((h.push { cls:=.type "dict",data:=.dict #[] }).update x fun o=>{ cls:=o.cls,dict:=some h.objs.size,data:=o.data,slots:=o.slots }).Ns h.objs.size (fun _=>none) :=
   ⟨_,#[],_,hgd,rfl,fun e he=>absurd he (by simp),fun _=>rfl⟩
  show wpAny _ _ (storeInDict h.objs.size (.str name tk) name v) _ _ _
  unfold storeInDict newKeyGuard
  refine wpAny_bind (wpAny_pure (wpAny_bind (wpAny_nsSet1 (Heap.Ns1.of_empty hnd) fun h' hn' hs=>?_)))
  obtain ⟨oD,esD,epD,hoD,hdD,hcD⟩:=hn'.count (Within.cons name v Within.nil)
  refine wpAny_bind (wpAny_lookBehind hoD (by rw [hdD]; exact pastItsLine_dict (Nat.le_trans hcD (by rw [List.length_cons,List.length_nil,sizeLine_eq]; omega))) ?_)
  refine wpAny_pure (hq h' hn' ?_ fun b ob hbx hb=>(hs.2 b (Nat.ne_of_lt (Heap.lt_size hb))).trans ((Heap.get?_update_ne _ _ _ _ hbx).trans (Heap.get?_push_of_some _ hb)))
  refine (hs.2 x hxs).trans (Heap.get?_update_self _ hx₁ ?_)
  have hfr:=(Heap.get?_some_iff.mp hx).2
  cases odt <;> first | rfl | exact hfr
theorem own_some {Q:PySem.Fin→Shared→Prop} {o:Obj} {name:Str} {tk:Tok} {v:Value} {b:Bool} {dx:Addr} {mA:Str→Option Value} {ns:List Str} (X:K.In s.heap) (hx:s.heap.get? x=some o) (hc:o.cls = .ref C) (hdn:o.dict=some dx) (hh:(clsIn K C).any (·.hasDict)=true)
  (hns:s.heap.Ns1 dx mA) (hw:Within mA ns) (hz:ns.length < sizeLine)
  (hq:∀ h',h'.Ns1 dx (fun y=>if y=name then some v else mA y)→(∀ b ob,b≠dx→s.heap.get? b=some ob→h'.get? b=some ob)→Q (.done (.ret .none)) { s with heap:=h',toks:=s.toks + 1 }) :
  wpAny (model prog w) A (storeInOwnDict (.ref x) (.ref C) (.str name tk) name v b) Q E s:=by
 obtain ⟨cd,hcl,hd'⟩:=any_some hh
 obtain ⟨oc,od,odt,osl⟩:=o
 dsimp only at hc hdn
 subst hc hdn
 refine wpAny_bind (wpAny_pure (wpAny_bind (wpAny_bind (wpAny_loadPart hx (wpAny_bind ((looks_clsIn X hcl).here ?_))))))
 rw [hd']
 refine wpAny_pure (a:=some dx) (wpAny_bind (wpAny_pure (wpAny_bind (wpAny_nsSet1 hns fun h' hn' hs=>?_))))
 obtain ⟨oD,esD,epD,hoD,hdD,hcD⟩:=hn'.count (Within.cons name v hw)
 refine wpAny_bind (wpAny_lookBehind hoD (by rw [hdD]; exact pastItsLine_dict (Nat.le_trans hcD (by rw [List.length_cons]; omega))) ?_)
 exact wpAny_pure (hq h' hn' fun b ob hb z=>(hs.2 b hb).trans z)
end
end DW
end
section
set_option autoImplicit false
set_option maxHeartbeats 2000000
namespace DW
open PySem PySem.W PySem.Spec PyProof.Rows L2
section
variable {prog:Program} {w:World} {A:Around} {E:Value→Shared→Prop} {h:Heap} {g:Array GenState} {d:Drawn} {t:Nat} {os:OsState}
variable {nm q:Str} {C N:Addr} {bs bm bmB:List Value} {hdct:Bool} {sn:List Str} {sub:List Value} {ab:Bool} {col:Option Bool} {dd:Option Addr} {k0 k1 k2 k3 k5:Option Value} {B newId initId:String}
theorem type_call_initT (F:ExcBaseFacts B newId initId bmB) (T:OwnTail h bmB bm) {mN:Str→Option Value} {rest:List Value} {fI:Addr} {oI:Obj} {Q:PySem.Fin→Shared→Prop}
  (hC:h.get? C=some (excClassObj nm q C N bs bm hdct sn sub ab col dd k0 k1 k2 k3 k5 newId)) (hn:h.Ns N mN) (hi:mN "__init__" = some (.ref fI))
  (hfI:h.get? fI=some oI) (hfc:oI.cls = .type "function")
  (hq:∀ h' e,Heap.MadeExcOf h h' e (.ref C) rest →
   wpAny (model prog w) A (call (.ref fI) (.ref e :: rest)) (fun r s'=>r = .none∧Q (.done (.ret (.ref e))) s') E ⟨h',g,d,t,os⟩) (hrest:rest.length≤sizeLine) :
  wpAny (model prog w) A (Builtin.«type.__call__» ⟨.ref C :: rest,[]⟩) Q E ⟨h,g,d,t,os⟩:=by
 repeat (first | with_reducible refine wpAny_loadPart_at hC ?_ | with_reducible refine wpAny_madeBy_exc hC ?_ | wp_step)
 refine codeAny_call_builtin_code (Code.quiet_builtin _ F.quiet) (wpAny_check_new_subT F T hC ?_)
 refine codeAny_exc_new_subT F T hC ?_ hrest
 show wpAny _ _ _ _ _ _
 have hC₁:=Heap.get?_push_of_some { cls:=.ref C,data:=.fields #[.ref h.objs.size,.none,.none,.none,.bool false,.none] }
  (Heap.get?_push_of_some { cls:=.type "tuple",data:=.seq rest.toArray } hC)
 have hfI₁:=Heap.get?_push_of_some { cls:=.ref C,data:=.fields #[.ref h.objs.size,.none,.none,.none,.bool false,.none] }
  (Heap.get?_push_of_some { cls:=.type "tuple",data:=.seq rest.toArray } hfI)
 have hn₁:((h.push { cls:=.type "tuple",data:=.seq rest.toArray }).push { cls:=.ref C,data:=.fields #[.ref h.objs.size,.none,.none,.none,.bool false,.none] }).Ns N mN :=
  let ⟨o,es,ep,e,r⟩:=hn; ⟨o,es,ep,Heap.get?_push_of_some _ (Heap.get?_push_of_some _ e),r⟩
 have hget:((h.push { cls:=.type "tuple",data:=.seq rest.toArray }).push
   { cls:=.ref C,data:=.fields #[.ref h.objs.size,.none,.none,.none,.bool false,.none] }).get? (h.objs.size + 1)=some
   { cls:=.ref C,data:=.fields #[.ref h.objs.size,.none,.none,.none,.bool false,.none] }:=by heap_get
 have hcC:(Value.ref C :: bm).contains (.ref C)=true:=by simp
 have T₁:=T.keeps (h':=(h.push { cls:=.type "tuple",data:=.seq rest.toArray }).push { cls:=.ref C,data:=.fields #[.ref h.objs.size,.none,.none,.none,.bool false,.none] })
  fun b o e=>Heap.get?_push_of_some _ (Heap.get?_push_of_some _ e)
 unfold isInstance
 repeat (first | with_reducible refine wpAny_loadPart_at hget ?_ | (with_reducible refine wpAny_isSubtype_exc hC₁ ?_; rw [hcC]) | wp_step)
 show wpAny _ _ (typeLookup (.ref C) _) _ _ _
 refine wpAny_typeLookup_tail hC₁ hn₁ T₁ F.mroIs F.init.lookup ?_
 rw [hi]
 refine wpAny_holding (wpAny_bind ?_)
 unfold bindSpecial
 refine wpAny_bind (wpAny_typeOf (T:="function") ⟨_,hfI₁,hfc⟩ ?_)
 rw [if_pos (by decide)]
 refine wpAny_pure (wpAny_bind (wpAny_mono (hq _ (h.objs.size + 1) ⟨fun b o hb=>Heap.get?_push_of_some _ (Heap.get?_push_of_some _ hb),Heap.get?_none_of_le (Nat.le_succ _),h.objs.size,hget,Heap.get?_none_of_le (Nat.le_refl _),?_⟩) (fun r s' hr=>?_) fun _ _ x=>x))
 ·exact Heap.get?_push_of_some _ (Heap.get?_push_at rfl rfl)
 ·obtain ⟨rfl,hQ⟩:=hr
  wp_walk
  exact hQ
theorem call_initT (F:ExcBaseFacts B newId initId bmB) (T:OwnTail h bmB bm) {mN:Str→Option Value} {rest:List Value} {fI:Addr} {oI:Obj} {Q:Value→Shared→Prop}
  (hC:h.get? C=some (excClassObj nm q C N bs bm hdct sn sub ab col dd k0 k1 k2 k3 k5 newId)) (hn:h.Ns N mN) (hi:mN "__init__" = some (.ref fI))
  (hfI:h.get? fI=some oI) (hfc:oI.cls = .type "function")
  (hq:∀ h' e,Heap.MadeExcOf h h' e (.ref C) rest →
   wpAny (model prog w) (A.under (.builtin "type.__call__" ⟨.ref C :: rest,[]⟩)) (call (.ref fI) (.ref e :: rest)) (fun r s'=>r = .none∧Q (.ref e) s') E ⟨h',g,d,t,os⟩) (hrest:rest.length≤sizeLine) :
  wpAny (model prog w) A (call (.ref C) rest) Q E ⟨h,g,d,t,os⟩:=by
 have f1:=tc_lookup
 have f2:=tc_bind (.ref C)
 have hT:(⟨h,g,d,t,os⟩:Shared).TypeIs (.ref C) "type":=⟨_,hC,rfl⟩
 refine wpAny_call (codeAny_of_tree ?_)
 show wpAny _ _ (callAny (.ref C) _) _ _ _
 repeat (any_goals (first | assumption | with_reducible refine wpAny_loadPart_at hC ?_ | wp_step))
 refine ⟨rfl,?_⟩
 refine codeAny_call_builtin_at (Code.quiet_builtin _ (by decide +kernel)) entry_typeCall (wpAny_check_type_call_sub hC (type_call_initT (hrest:=hrest) F T hC hn hi hfI hfc fun h' e hm=>?_))
 exact hq h' e hm
end
section
variable {prog:Program} {w:World} {A:Around} {E:Value→Shared→Prop} {s:Shared} {env:Env}
variable {nm q:Str} {C N:Addr} {bs bm bmB:List Value} {hdct:Bool} {sn:List Str} {sub:List Value} {ab:Bool} {col:Option Bool} {dd:Option Addr} {k0 k1 k2 k3 k5:Option Value} {B newId initId:String}
theorem raise_made {x:Sem Value} {Q:Flow→Shared→Prop} (hbase:bm.contains (.type "BaseException")=true) (hh:A.handled=none)
  (h:wpAny (model prog w) A x (fun v s₁=>∃ e t dx,v = .ref e∧s₁.heap.get? C=some (excClassObj nm q C N bs bm hdct sn sub ab col dd k0 k1 k2 k3 k5 newId) ∧
   s₁.heap.get? e=some { cls:=.ref C,dict:=dx,data:=.fields #[.ref t,.none,.none,.none,.bool false,.none] }∧E (.ref e) s₁) E s) :
  wpAny (model prog w) A (raiseStmt env (some x) none) Q E s:=by
 have hcB:(Value.ref C :: bm).contains (.type "BaseException")=true:=by rw [List.contains_cons,hbase,Bool.or_true]
 unfold raiseStmt
 refine wpAny_bind (wpAny_mono h (fun v s₁ h₁=>?_) fun _ _ x=>x)
 obtain ⟨e,t,dx,rfl,hC,he,hE⟩:=h₁
 obtain ⟨hp,g,d,tk,os⟩:=s₁
 repeat (first | with_reducible refine wpAny_loadPart_at he ?_ | with_reducible refine wpAny_loadPart_at hC ?_ | (with_reducible refine wpAny_isSubtype_exc hC ?_; rw [hcB]) | wp_step)
 exact wpAny_raiseNew_none hh hE
theorem raise_initT (F:ExcBaseFacts B newId initId bmB) {mN:Str→Option Value} {fI:Addr} {oI:Obj} {x:Str} {np cpos pos:Pos} {args:List Expr} {Q:Flow→Shared→Prop}
  (hbase:bm.contains (.type "BaseException")=true) (hh:A.handled=none) (hplain:(backTo cpos (starEach args env)).any (·.1)=false) (hi:mN "__init__" = some (.ref fI)) (hfc:oI.cls = .type "function")
  (h:wpAny (model prog w) A (eval (.Name x np) env) (fun f s₁=>f = .ref C∧wpAny (model prog w) A (evalArgs (.ref C) true (backTo cpos (starEach args env)) [])
   (fun a s₂=>a.kw=[]∧a.pos.length≤sizeLine∧s₂.heap.get? C=some (excClassObj nm q C N bs bm hdct sn sub ab col dd k0 k1 k2 k3 k5 newId)∧s₂.heap.Ns N mN∧s₂.heap.get? fI=some oI∧OwnTail s₂.heap bmB bm ∧
    ∀ h' e,Heap.MadeExcOf s₂.heap h' e (.ref C) a.pos→wpAny (model prog w) (A.under (.builtin "type.__call__" ⟨.ref C :: a.pos,[]⟩)) (call (.ref fI) (.ref e :: a.pos)) (fun r s'=>r = .none ∧
     ∃ t dx,s'.heap.get? C=some (excClassObj nm q C N bs bm hdct sn sub ab col dd k0 k1 k2 k3 k5 newId)∧s'.heap.get? e=some { cls:=.ref C,dict:=dx,data:=.fields #[.ref t,.none,.none,.none,.bool false,.none] }∧E (.ref e) s') E { s₂ with heap:=h' }) E s₁) E s) :
  wpAny (model prog w) A (exec (.Raise (some (.Call (.Name x np) args [] cpos)) none pos) env) Q E s:=by
 rw [arm_exec_Raise]
 first
  | refine wpAny_bind (wpAny_standAt (raise_made (C:=C) (nm:=nm) (q:=q) (N:=N) (bs:=bs) (bm:=bm) (hdct:=hdct) (sn:=sn) (sub:=sub) (ab:=ab) (col:=col) (dd:=dd) (k0:=k0) (k1:=k1) (k2:=k2) (k3:=k3) (k5:=k5) (newId:=newId) hbase hh (wpAny_bind (wpAny_mono (wpAny_Call_ofName (wpAny_mono h (fun f s₁ h₁=>?_) fun _ _ x=>x)) (fun v s₃ h₃=>wpAny_bind (wpAny_standAt (wpAny_pure h₃))) fun _ _ x=>x))))
  | (simp only [evalOpt,Option.map]; refine wpAny_bind (wpAny_standAt (raise_made (C:=C) (nm:=nm) (q:=q) (N:=N) (bs:=bs) (bm:=bm) (hdct:=hdct) (sn:=sn) (sub:=sub) (ab:=ab) (col:=col) (dd:=dd) (k0:=k0) (k1:=k1) (k2:=k2) (k3:=k3) (k5:=k5) (newId:=newId) hbase hh (wpAny_bind (wpAny_mono (wpAny_Call_ofName (wpAny_mono h (fun f s₁ h₁=>?_) fun _ _ x=>x)) (fun v s₃ h₃=>wpAny_bind (wpAny_standAt (wpAny_pure h₃))) fun _ _ x=>x)))))
  | (refine wpAny_bind (wpAny_standAt (raise_made (C:=C) (nm:=nm) (q:=q) (N:=N) (bs:=bs) (bm:=bm) (hdct:=hdct) (sn:=sn) (sub:=sub) (ab:=ab) (col:=col) (dd:=dd) (k0:=k0) (k1:=k1) (k2:=k2) (k3:=k3) (k5:=k5) (newId:=newId) hbase hh ?_)); refine wpAny_bind (wpAny_mono (wpAny_Call_ofName (wpAny_mono h (fun f s₁ h₁=>?_) fun _ _ x=>x)) (fun v s₃ h₃=>wpAny_bind (wpAny_standAt (wpAny_pure h₃))) fun _ _ x=>x))
 obtain ⟨rfl,h₁⟩:=h₁
 unfold callWith
 refine wpAny_bind (wpAny_holding (wpAny_mono h₁ (fun a s₂ h₂=>wpAny_bind (wpAny_standAt ?_)) fun _ _ x=>x))
 obtain ⟨apos,akw⟩:=a
 obtain ⟨hkw,hlen,hC,hn,hf,T,h₂⟩:=h₂
 obtain rfl:akw=[]:=hkw
 obtain ⟨hp,g,d,tk,os⟩:=s₂
 simp only [hplain]
 refine wpAny_bind (wpAny_keeperOf_exc hC ?_)
 refine wpAny_bind (call_initT (hrest:=hlen) F T hC hn hi hf hfc fun h' e hm=>wpAny_mono (h₂ h' e hm) (fun r s' z=>⟨z.1,wpAny_bind (wpAny_holding (wpAny_point (wpAny_pure ?_)))⟩) fun _ _ x=>x)
 obtain ⟨_,t,dx,z1,z2,z3⟩:=z
 exact ⟨e,t,dx,rfl,z1,z2,z3⟩
end
end DW
end
section
set_option autoImplicit false
set_option maxHeartbeats 2000000
namespace DW
open PySem PySem.W PySem.Spec PyProof.Rows L2
noncomputable abbrev errObj (C t:Addr) (d:Option Addr):Obj:={ cls:=.ref C,dict:=d,data:=.fields #[.ref t,.none,.none,.none,.bool false,.none] }
noncomputable def ErrO (a C:Addr) (d:Option Addr):HO:=.ext fun h=>∃ t,h.get? a=some (errObj C t d)
section
variable {P:Program} {w:World} {H:Hp} {h h':Heap} {a C t:Addr} {d:Option Addr} {o:HO} {fs:List (Str×V)} {mA:Str→Option Value}
theorem errO_ok (e:h.get? a=some (errObj C t d)):ObjOk P w H h a (ErrO a C d):=⟨⟨t,e⟩,⟨_,e⟩,fun _ _ ⟨t,q⟩ k=>⟨t,k _ q⟩⟩
theorem dcO_ok (n:h.Ns1 a mA) (r:∀ f,RelO (fs.lookup f) (mA f)) (wi:PySem.Within mA (fs.map (·.1))):ObjOk P w H h a (DcO a fs) :=
 ⟨⟨mA,n,r,wi⟩,(let ⟨o,_,_,e,_⟩:=n; ⟨o,e⟩),fun _ _ ⟨mA,n,r,wi⟩ k=>⟨mA,n.at k,r,wi⟩⟩
theorem hok_none (ok:HOk P w H h) (e:h.get? a=none):H a=none:=by
 cases q:H a with
 | none=>rfl
 | some u =>
  obtain ⟨o,z⟩:=obj_there (ok a u q)
  rw [e] at z; cases z
theorem hok_new (x:HOk P w H h) (k:∀ b u,h.get? b=some u→h'.get? b=some u) (e:h.get? a=none) (new:ObjOk P w (upd H a o) h' a o):HOk P w (upd H a o) h':=fun b u q=>by
 have hn:=hok_none x e
 by_cases hb:b=a
 ·subst hb; rw [upd_same] at q; cases q; exact new
 ·rw [upd_ne hb] at q
  exact (x b u q).stay (fun c v _ q=>k c v q) (fun c q=>by rw [upd_ne (ne_of_none q hn)]; exact q) fun c xs q=>by rw [upd_ne (ne_of_none q hn)]; exact q
theorem un_new {fs ex:List Addr} (k:∀ b u,h.get? b=some u→h'.get? b=some u) (e:h.get? a=none) (hn:H a=none):Un fs ex H (upd H a o) h h' where
 keep:=fun b u q _ _ _=>k b u q
 slot:=fun b u q _ _ _=>⟨u.slots,k b u q⟩
 free:=fun b u q n _=>by rw [upd_ne (fun z=>by subst z; rw [e] at q; cases q)]; exact n
 there:=fun b u q _=>⟨u,k b u q⟩
 tups:=fun b xs q=>by rw [upd_ne (ne_of_none q hn)]; exact q
 frzs:=fun b u xs q=>by rw [upd_ne (ne_of_none q hn)]; exact q
 tbls:=fun b ps q=>⟨#[],by rw [upd_ne (ne_of_none q hn),Array.append_empty]; exact q⟩
noncomputable def drop (H:Hp) (a:Addr):Hp:=fun b=>if b=a then none else H b
theorem drop_same:drop H a a=none:=if_pos rfl
theorem drop_ne {b:Addr} (n:b≠a):drop H a b=H b:=if_neg n
theorem hok_drop {φ:Heap→Prop} (x:HOk P w H h) (e:H a=some (.ext φ)):HOk P w (drop H a) h:=fun b u q=>by
 have hb:b≠a:=fun z=>by subst z; rw [drop_same] at q; cases q
 rw [drop_ne hb] at q
 exact (x b u q).stay (fun c v _ q=>q) (fun c q=>by rw [drop_ne (fun z=>by subst z; rw [e] at q; cases q)]; exact q) fun c xs q=>by rw [drop_ne (fun z=>by subst z; rw [e] at q; cases q)]; exact q
theorem un_drop {fs ex:List Addr} {φ:Heap→Prop} (e:H a=some (.ext φ)):Un fs ex H (drop H a) h h where
 keep:=fun b u q _ _ _=>q
 slot:=fun b u q _ _ _=>⟨u.slots,q⟩
 free:=fun b u q n _=>by
  by_cases z:b=a
  ·rw [z]; exact drop_same
  ·rw [drop_ne z]; exact n
 there:=fun b u q _=>⟨u,q⟩
 tups:=fun b xs q=>by rw [drop_ne (fun z=>by subst z; rw [e] at q; cases q)]; exact q
 frzs:=fun b u xs q=>by rw [drop_ne (fun z=>by subst z; rw [e] at q; cases q)]; exact q
 tbls:=fun b ps q=>⟨#[],by rw [drop_ne (fun z=>by subst z; rw [e] at q; cases q),Array.append_empty]; exact q⟩
end
structure ErrC (K:Frag) (C:Addr):Prop where
 ov:excOver K C=true
 ob:mroIn K C (.type "object")=some true
 hd:hasDictIn K C=true
 sa:findIn K (.ref C) "__setattr__" = some (some (.builtin "object.__setattr__"))
section
variable {X:Cx} {pins:List (Addr×Obj)} {σ:L2.St} {H:Hp} {s:Shared} {a C dx:Addr} {fs:List (Str×V)} {f:Str} {E:Value→Shared→Prop}
theorem ErrC.has (c:ErrC X.K C):(clsIn X.K C).any (·.hasDict)=true:=c.hd
theorem seterr0 {y:V} {u:Value} {Q:Unit→Shared→Prop} (I:Inv X pins σ H s) (e:H a=some (ErrO a C none)) (c:ErrC X.K C) (n:NoAttr X.K C f) (ry:RelV y u)
  (h:∀ dx s',H dx=none→dx≠a→Inv X pins σ (upd (upd H dx (DcO dx [(f,y)])) a (ErrO a C (some dx))) s'→Q () s'):wpAny (model X.prog X.w) X.A (setAttr (.ref a) f u) Q E s:=by
 obtain ⟨⟨t,ha⟩,_⟩:=(show ObjOk X.prog X.w H s.heap a (ErrO a C none) from I.hok a _ e)
 have J:InstAt s.heap a (errObj C t none) C none:=⟨ha,rfl,rfl,trivial⟩
 refine set_plain I.kIn J c.sa (osa_exc (s:={ s with toks:=s.toks + 1 }) I.kIn J c.ov c.ob n (own_none (s:={ s with toks:=s.toks + 1 }) I.kIn ha rfl (fun _ z=>by cases z) rfl c.has fun h' n' hx k=>?_))
 have sz:s.heap.objs.size≠a:=Ne.symm (Nat.ne_of_lt (Heap.lt_size ha))
 have fr:=I.hok.fresh (Nat.le_refl _)
 refine h _ _ fr sz ?_
 have hx':h'.get? a=some (errObj C t (some s.heap.objs.size)):=hx
 have q1:(h'.update a fun _=>errObj C t none).get? a=some (errObj C t none):=Heap.get?_update_self _ hx' rfl
 have q2:∀ b,b≠a→(h'.update a fun _=>errObj C t none).get? b=h'.get? b:=fun b hb=>Heap.get?_update_other _ _ (Ne.symm hb)
 have I1:=I.laid (a:=s.heap.objs.size) (o:=DcO s.heap.objs.size [(f,y)]) (h':=h'.update a fun _=>errObj C t none) (t':=s.toks) (fun b u q=>by
  by_cases hb:b=a
  ·subst hb; rw [ha] at q; cases q; exact q1
  ·rw [q2 b hb]; exact k b u hb q) (Nat.le_refl _) (dcO_ok (n'.at fun o q=>by rw [q2 _ sz]; exact q) (fun g=>?_) fun g hg=>?_)
 ·exact I1.write (x:=a) (e:=a) (h':=h') (t':=s.toks + 1 + 1) (by rw [upd_ne (Ne.symm sz),e]; exact True.intro) (.inl rfl) (fun b v hb q=>by rw [← q2 b hb]; exact q) ⟨_,hx'⟩ (errO_ok hx')
 ·show RelO (List.lookup g [(f,y)]) (if g=f then some u else none)
  by_cases z:g=f
  ·subst z; simp only [List.lookup,beq_self_eq_true,if_true]; exact ry
  ·rw [if_neg z]; simp only [List.lookup,beq_eq_false_iff_ne.mpr z]; exact True.intro
 ·by_cases z:g=f
  ·rw [z]; simp
  ·exact absurd (if_neg z) hg
theorem seterr1 {y:V} {u:Value} {Q:Unit→Shared→Prop} (I:Inv X pins σ H s) (e:H a=some (ErrO a C (some dx))) (ed:H dx=some (DcO dx fs)) (c:ErrC X.K C) (n:NoAttr X.K C f) (hl:fs.length < 1000) (ry:RelV y u)
  (h:∀ s',Inv X pins σ (upd H dx (DcO dx (putF f y fs))) s'→Q () s'):wpAny (model X.prog X.w) X.A (setAttr (.ref a) f u) Q E s:=by
 obtain ⟨⟨t,ha⟩,_⟩:=(show ObjOk X.prog X.w H s.heap a (ErrO a C (some dx)) from I.hok a _ e)
 obtain ⟨⟨mA,n1,r,wi⟩,⟨od,hod⟩,_⟩:=(show ObjOk X.prog X.w H s.heap dx (DcO dx fs) from I.hok dx _ ed)
 have J:InstAt s.heap a (errObj C t (some dx)) C (some od):=⟨ha,rfl,rfl,hod⟩
 have hz:(fs.map (·.1)).length < sizeLine:=by rw [List.length_map,sizeLine_eq]; omega
 refine set_plain I.kIn J c.sa (osa_exc (s:={ s with toks:=s.toks + 1 }) I.kIn J c.ov c.ob n (own_some (s:={ s with toks:=s.toks + 1 }) I.kIn ha rfl rfl c.has n1 wi hz fun h' n' k=>?_))
 refine h _ (I.write (x:=dx) (e:=dx) (h':=h') (t':=s.toks + 1 + 1) (by rw [ed]; exact True.intro) (.inl rfl) (fun b v hb q=>k b v hb q) (let ⟨o,_,_,q,_⟩:=n'; ⟨o,q⟩) (dcO_ok n' (fun g=>?_) fun g hg=>?_))
 ·show RelO ((putF f y fs).lookup g) (if g=f then some u else mA g)
  rw [lookup_putF]
  by_cases q:g=f
  ·rw [if_pos q,if_pos q]; exact ry
  ·rw [if_neg q,if_neg q]; exact r g
 ·by_cases q:g=f
  ·rw [q]; exact (keys_putF f y fs).1
  ·refine (keys_putF f y fs).2 g (wi g fun z=>hg ?_)
   show (if g=f then some u else mA g)=none
   rw [if_neg q]; exact z
end
noncomputable def sErr (K:Frag) (ta tv:TE) (f:Str):TS:=fun D σ H=>tv σ H fun y H1=>ta σ H1 fun x H2=>∃ a C,x = .ref a∧ErrC K C∧NoAttr K C f ∧
 ((H2 a=some (ErrO a C none)∧∀ dx,H2 dx=none→dx≠a→D.nx σ (upd (upd H2 dx (DcO dx [(f,y)])) a (ErrO a C (some dx)))) ∨
  ∃ dx fs,H2 a=some (ErrO a C (some dx))∧H2 dx=some (DcO dx fs)∧fs.length < 1000∧D.nx σ (upd H2 dx (DcO dx (putF f y fs))))
theorem ps_err {X:Cx} {o value:Expr} {f:Str} {pos pos':Pos} {ta tv:TE} (ha:PE X o ta) (hv:PE X value tv) (hs:swapsWith value (some (.Attribute o f pos')) pos.line X.env=pure false):PS X (.Assign [.Attribute o f pos'] value pos) (sErr X.K ta tv f):=by
 intro pins s σ H D I h
 refine plainObj_wpAny_Assign_Attribute (thn (hv pins s σ H _ I h) fun u s1 ⟨y,H1,I1,ry,q⟩=>thn (ha pins s1 σ H1 _ I1 q) fun ov s2 ⟨x,H2,I2,rx,a,C,ex,c,n,l⟩=>?_) hs
 subst ex
 obtain rfl:ov=Value.ref a:=rx
 rcases l with ⟨e,q2⟩ | ⟨dx,fs,e,ed,hl,q2⟩
 ·exact seterr0 I2 e c n ry fun dx s3 e1 e2 I3=>⟨σ,_,I3,q2 dx e1 e2⟩
 ·exact seterr1 I2 e ed c n hl ry fun s3 I3=>⟨σ,_,I3,q2⟩
noncomputable def nodbg (x:Str):Bool:=!(x == ("__debug__" : Str)) && !(x == ("__classdict__" : Str))
noncomputable def iniS (sf x:Str):Stmt→Bool
 | .Assign [.Attribute (.Name s _) f _] (.Name v _) _=>s == sf && f == x && v == x
 | _=>false
noncomputable def iniM (sf:Str):List Str→List Stmt→Bool
 | [],[]=>true
 | x :: xs,st :: r=>iniS sf x st && iniM sf xs r
 | _,_=>false
theorem iniS_inv {sf x:Str} {st:Stmt} (h:iniS sf x st=true):∃ p p' q r,st = .Assign [.Attribute (.Name sf p) x p'] (.Name x q) r:=by
 unfold iniS at h
 split at h
 ·rename_i s p f p' v q r
  simp only [Bool.and_eq_true,beq_iff_eq] at h
  obtain ⟨⟨rfl,rfl⟩,rfl⟩:=h
  exact ⟨p,p',q,r,rfl⟩
 ·exact (Bool.false_ne_true h).elim
noncomputable def tIni (K:Frag):Nat→List Str→TS
 | _,[]=>tNext
 | i,x :: xs=>tSeq (sErr K (tVar 0) (tVar i) x) (tIni K (i + 1) xs)
theorem nodbg_of {x:Str} (h:nodbg x=true):(x == ("__debug__" : Str))=false∧(x == ("__classdict__" : Str))=false:=by
 unfold nodbg at h
 rw [Bool.and_eq_true] at h
 exact ⟨by simpa using h.1,by simpa using h.2⟩
theorem pss_ini {X:Cx} {sf:Str} (h0:X.N[0]? = some sf) (v0:Vis X.env.scope sf) (d0:nodbg sf=true):∀ {xs:List Str} {b:List Stmt} {i:Nat},
  (∀ (j:Nat) x,xs[j]? = some x→X.N[i + j]? = some x∧Vis X.env.scope x∧nodbg x=true)→iniM sf xs b=true→PSs X b (tIni X.K i xs)
 | [],[],_,_,_=>pss_nil
 | [],_ :: _,_,_,h=>(Bool.false_ne_true h).elim
 | _ :: _,[],_,_,h=>(Bool.false_ne_true h).elim
 | x :: xs,st :: r,i,hx,h=>by
  have h':(iniS sf x st && iniM sf xs r)=true:=h
  rw [Bool.and_eq_true] at h'
  obtain ⟨p,p',q,r',rfl⟩:=iniS_inv h'.1
  obtain ⟨n1,n2,n3⟩:=hx 0 x rfl
  refine pss_cons (ps_err (pe_var h0 v0 (nodbg_of d0).1 (nodbg_of d0).2) (pe_var n1 n2 (nodbg_of n3).1 (nodbg_of n3).2) rfl) (pss_ini h0 v0 d0 (fun j y hy=>?_) h'.2)
  have:=hx (j + 1) y hy
  rw [show i + 1 + j=i + (j + 1) by omega]; exact this
theorem putF_new {f:Str} {y:V}:∀ {fs:List (Str×V)},f ∉ fs.map (·.1)→putF f y fs=fs ++ [(f,y)]
 | [],_=>rfl
 | (g,x) :: r,h=>by
  have h1:¬ g=f:=fun z=>h (by simp [z])
  show (if g=f then _ else _)=_
  rw [if_neg h1,putF_new (fun z=>h (by simp at z ⊢; exact .inr z))]; rfl
theorem upd_id {H:Hp} {a:Addr} {o:HO} (h:H a=some o):upd H a o=H:=by
 funext b; unfold upd; split
 ·rename_i z; rw [z,h]
 ·rfl
theorem ini_rd {K:Frag} {σ:L2.St} {a C dx:Addr} (c:ErrC K C) (h0:σ[0]? = some (some (.ref a))) (hd:dx≠a):∀ (xs:List Str) (ys:List V) (i:Nat) (H:Hp) (fs:List (Str×V)) (D:Ends),ys.length=xs.length→(∀ x∈xs,NoAttr K C x) →
  (∀ (j:Nat) y,ys[j]? = some y→σ[i + j]? = some (some y))→H a=some (ErrO a C (some dx))→H dx=some (DcO dx fs)→(fs.map (·.1) ++ xs).Nodup→fs.length + xs.length < 1000→D.nx σ (upd H dx (DcO dx (fs ++ xs.zip ys)))→tIni K i xs D σ H
 | [],ys,i,H,fs,D,hl,_,_,_,ed,_,_,q=>by
  rw [List.zip_nil_left,List.append_nil,upd_id ed] at q; exact q
 | x :: xs,[],_,_,_,_,hl,_,_,_,_,_,_,_=>by simp at hl
 | x :: xs,y :: ys,i,H,fs,D,hl,hn,hv,ea,ed,nd,z,q=>by
  have hx:x ∉ fs.map (·.1):=fun m=>(List.nodup_append.mp nd).2.2 x m x (by simp) rfl
  refine ⟨y,by simpa using hv 0 y rfl,.ref a,h0,a,C,rfl,c,hn x (by simp),.inr ⟨dx,fs,ea,ed,by simp at z; omega,?_⟩⟩
  show tIni K (i + 1) xs D σ _
  refine ini_rd c h0 hd xs ys (i + 1) _ (putF x y fs) D (by simpa using hl) (fun w m=>hn w (by simp [m])) (fun j w e=>?_) (by rw [upd_ne (Ne.symm hd)]; exact ea) upd_same ?_ ?_ ?_
  ·rw [show i + 1 + j=i + (j + 1) by omega]; exact hv (j + 1) w e
  ·rw [putF_new hx]; simpa [List.append_assoc] using nd
  ·rw [putF_new hx]; simp at z ⊢; omega
  ·rw [L2.upd_upd,putF_new hx,List.append_assoc]; exact q
noncomputable def spI (K:Frag) (xs:List Str):Sp:=fun vs H Q E=>∃ a C ys,vs = .ref a :: ys∧ys.length=xs.length∧H a=some (ErrO a C none)∧ErrC K C∧(∀ x∈xs,NoAttr K C x) ∧
 ∀ dx,H dx=none→dx≠a→Q .non (upd (upd H dx (DcO dx (xs.zip ys))) a (ErrO a C (some dx)))
theorem ini_ok {P:Program} {w:World} {K:Frag} {mg:Str→Option Value} {base:Heap} {CX:CXT} {x qual:Str} {st:Stmt} {f:Addr} {fd:FuncData} {sf x1:Str} {xs:List Str} (F:Fun K x qual st f fd) (S:FnScope (sf :: x1 :: xs) (sf :: x1 :: xs) (defScope st))
  (hm:iniM sf (x1 :: xs) (defBody st)=true) (hd:(sf :: x1 :: xs).all nodbg=true) (hl:xs.length < 900):FnOk P w K mg base CX 1 f fd (sf :: x1 :: xs) (spI K (x1 :: xs)):=by
 obtain ⟨oc,od,kV,doc,pm,an,cdv,ct,osl,rfl,lk,hcd⟩:=F.ex
 have hv:∀ y∈sf :: x1 :: xs,Vis (defScope st) y:=fun y m=>(S.par y m).elim .inl fun z=>.inr (.inl z)
 have hg:∀ y∈sf :: x1 :: xs,nodbg y=true:=fun y m=>List.all_eq_true.mp hd y m
 refine fn_of (k:=0) lk hcd S (fun vs H Q E h=>?_) fun A outer s H vs Q E hr h=>?_
 ·obtain ⟨a,C,ys,rfl,e,_⟩:=h
  simp [e]
 ·obtain ⟨a,C,ys,rfl,e,ea,c,n,q⟩:=h
  refine ⟨tIni K 1 (x1 :: xs),pss_ini (X:=cxOf CX P w K mg base (sf :: x1 :: xs) qual (defScope st) f cdv A outer s H E) rfl (hv sf (by simp)) (hg sf (by simp)) (fun j y hy=>?_) hm,?_⟩
  ·have m:y∈sf :: x1 :: xs:=List.mem_cons_of_mem _ (List.mem_of_getElem? hy)
   refine ⟨?_,hv y m,hg y m⟩
   show (sf :: x1 :: xs)[1 + j]? = some y
   rw [Nat.add_comm]; exact hy
  ·cases ys with
   | nil=>simp at e
   | cons y ys =>
    have st0:L2.start (sf :: x1 :: xs) (.ref a :: y :: ys)=some (.ref a) :: some y :: ys.map some:=by
     unfold L2.start
     simp at e
     simp [e]
    rw [st0]
    refine ⟨y,rfl,.ref a,rfl,a,C,rfl,c,n x1 (by simp),.inl ⟨ea,fun dx d1 d2=>?_⟩⟩
    show tIni K 2 xs _ _ _
    refine ini_rd c rfl d2 xs ys 2 _ [(x1,y)] _ (by simpa using e) (fun z m=>n z (by simp [m])) (fun j w hw=>?_) upd_same (by rw [upd_ne d2,upd_same]) ?_ (by simp; omega) ?_
    ·rw [Nat.add_comm]
     show (ys.map some)[j]? = _
     rw [List.getElem?_map,hw]; rfl
    ·have:=S.nd
     rw [List.nodup_cons] at this
     exact this.2
    ·show Q .non _
     have z:=q dx d1 d2
     have e2:upd (upd (upd H dx (DcO dx [(x1,y)])) a (ErrO a C (some dx))) dx (DcO dx ([(x1,y)] ++ xs.zip ys))=upd (upd H dx (DcO dx ((x1 :: xs).zip (y :: ys)))) a (ErrO a C (some dx)):=by
      funext b
      unfold upd
      by_cases b1:b=dx
      ·subst b1; simp [d2]
      ·by_cases b2:b=a
       ·subst b2; simp [b1]
       ·simp [b1,b2]
     rw [e2]; exact z
noncomputable def excInI (K:Frag) (C:Addr) (bmB:List Value) (newId:String) (fa:Addr):Bool:=match K.lookup C with
 | some ⟨.type "type",_,.cls cd,sl⟩=>(match cd.mro,sl.toList with
  | .ref C' :: bm,[_,_,_,_,some (.builtin n),_]=>C' == C && n == newId && !cd.hasDel && tailIn K bmB bm && nsOkIn K cd.ns && nsIn K cd.ns "__init__" == some (some (.ref fa))
  | _,_=>false)
 | _=>false
theorem ns_at_of {K:Frag} {h:Heap} {N:Addr} {mg:Str→Option Value} {n:Str} {v:Value} (X:K.In h) (G:h.Ns N mg) (e:nsIn K N n=some (some v)):mg n=some v:=by
 obtain ⟨o,es,ep,ho,hd,_,hf⟩:=G
 unfold nsIn at e
 split at e
 ·rename_i c d es' n' sl q
  have:=X _ _ q
  rw [ho] at this
  cases this
  cases hd
  split at e
  ·rename_i en he
   cases e
   rw [← hf]
   unfold nsFind findBy
   rw [← Array.find?_toList,he]
   rfl
  ·split at e <;> cases e
 ·cases e
theorem exc_objI {K:Frag} {h:Heap} {C fa:Addr} {bmB:List Value} {newId:String} (X:K.In h) (q:excInI K C bmB newId fa=true) :
  ∃ bm N nm qn bs hdct sn sub ab col dd k0 k1 k2 k3 k5 mN,h.get? C=some (excClassObj nm qn C N bs bm hdct sn sub ab col dd k0 k1 k2 k3 k5 newId)∧h.Ns N mN∧mN "__init__" = some (.ref fa)∧OwnTail h bmB bm:=by
 unfold excInI at q
 split at q
 ·rename_i dd cd sl ho
  split at q
  ·rename_i C' bm k0 k1 k2 k3 n k5 hm hs
   rw [Bool.and_eq_true,Bool.and_eq_true,Bool.and_eq_true,Bool.and_eq_true,Bool.and_eq_true] at q
   obtain ⟨⟨⟨⟨⟨e1,e2⟩,e3⟩,ht⟩,hok⟩,hni⟩:=q
   have e1:=beq_iff_eq.mp e1
   have e2:=beq_iff_eq.mp e2
   have e3:cd.hasDel=false:=by simpa using e3
   have hni:=beq_iff_eq.mp hni
   subst e1 e2
   obtain ⟨l⟩:=sl
   have hs':l=[k0,k1,k2,k3,some (.builtin n),k5]:=hs
   subst hs'
   obtain ⟨nm,bs,mro,ns,qn,hd,sn,sub,ab,col,del⟩:=cd
   have hm':mro = .ref C' :: bm:=hm
   have e3':del=false:=e3
   subst hm' e3'
   exact ⟨bm,ns,nm,qn,bs,hd,sn,sub,ab,col,dd,k0,k1,k2,k3,k5,_,X _ _ ho,.of_isNs (isNs_of_in X hok),ns_at_of X (.of_isNs (isNs_of_in X hok)) hni,tail_of_in X ht⟩
  ·cases q
 ·cases q
theorem fn_there {K:Frag} {h:Heap} {f:Addr} (X:K.In h) (e:isFn K (.ref f)=true):∃ o,h.get? f=some o∧o.cls = .type "function":=by
 have e':(K.lookup f).map (·.cls)=some (.type "function"):=beq_iff_eq.mp e
 obtain ⟨o,h1,h2⟩:=Option.map_eq_some_iff.mp e'
 exact ⟨o,X _ _ h1,h2⟩
section
variable {X:Cx} {E:XK} {x:Str} {C fa:Addr} {np cpos pos:Pos} {args:List Expr} {t:TA} {k:Nat} {fd:FuncData} {sf:Str} {xs:List Str}
theorem ini_run {pins:List (Addr×Obj)} {σ:L2.St} {H2:Hp} {s2:Shared} {us:List Value} {vs:List V} {h':Heap} {e:Addr} (L:Leaves X E) (c:ErrC X.K C) (n:∀ y∈xs,NoAttr X.K C y)
  (Fk:FnOk X.prog X.w X.K X.mg X.base (CXE X.prog X.w) k fa fd (sf :: xs) (spI X.K xs)) (hr:Room (k + 1) X.A) (hb:Binds X.K fd (sf :: xs) []) (I2:Inv X pins σ H2 s2) (r:Vals vs us) (hlen:vs.length=xs.length)
  (hE:∀ dx,H2 dx=none→E (.ref C) (some dx) (upd H2 dx (DcO dx (xs.zip vs)))) (hx:Heap.MadeExcOf s2.heap h' e (.ref C) us) :
  wpAny (model X.prog X.w) (X.A.under (.builtin "type.__call__" ⟨.ref C :: us,[]⟩)) (call (.ref fa) (.ref e :: us)) (fun r s'=>r = .none ∧
   ∃ t dx,(∀ b o,X.base.get? b=some o→s'.heap.get? b=some o)∧s'.heap.get? e=some { cls:=.ref C,dict:=dx,data:=.fields #[.ref t,.none,.none,.none,.bool false,.none] }∧X.xe (.ref e) s') X.xe { s2 with heap:=h' }:=by
 obtain ⟨t,he,ht,_⟩:=hx.there
 have hn:H2 e=none:=hok_none I2.hok hx.new
 have I3:Inv X pins σ (upd H2 e (ErrO e C none)) { s2 with heap:=h' }:=I2.un (t':=s2.toks) (un_new hx.keeps hx.new hn) (hok_new I2.hok hx.keeps hx.new (errO_ok he))
 have h0:X.s₀.heap.get? e=none:=by
  cases q:X.s₀.heap.get? e with
  | none=>rfl
  | some o =>
   obtain ⟨o',e'⟩:=I2.base.there e o q (by rw [L.ex]; simp)
   rw [hx.new] at e'; cases e'
 have r2:Vals (V.ref e :: vs) (Value.ref e :: us):=.cons rfl r
 have hl:(Value.ref e :: us).length=(sf :: xs).length:=by
  have:=r.length
  simp [← this,hlen]
 have hb':=hb _ (Value.ref e :: us) I3.kIn (by simpa using hl)
 rw [List.append_nil] at hb'
 have hsp:spI X.K xs (.ref e :: vs) (upd H2 e (ErrO e C none)) (fun v H4=>v = .non∧∃ dx,H2 dx=none∧dx≠e∧H4=upd (upd (upd H2 e (ErrO e C none)) dx (DcO dx (xs.zip vs))) e (ErrO e C (some dx))) E :=
  ⟨e,C,vs,rfl,hlen,upd_same,c,n,fun dx d1 d2=>⟨rfl,dx,by rw [upd_ne d2] at d1; exact d1,d2,rfl⟩⟩
 refine wpAny_call (codeAny_mono (Fk.run _ X.stack _ _ ⟨Value.ref e :: us,[]⟩ (Value.ref e :: us) _ _ E (hr.make C us []) (I3.env0.make C us []) hb' r2 hsp) fun r s' hq'=>?_)
 cases r with
 | error e'=>exact call_xe L I3 (fun _ _ _ z=>z) hq'
 | ok fl =>
  cases fl with
  | ret u =>
   obtain ⟨v,H',I4,rv,ev,dx,d1,d2,eH⟩:=I3.after hq'
   subst ev
   have e4:H' e=some (ErrO e C (some dx)):=by rw [eH]; exact upd_same
   obtain ⟨⟨t',he'⟩,_⟩:=(show ObjOk X.prog X.w H' s'.heap e (ErrO e C (some dx)) from I4.hok e _ e4)
   have I5:Inv X pins σ (drop H' e) s':=I4.un (t':=s'.toks) (un_drop e4) (hok_drop I4.hok e4)
   refine ⟨rv,t',some dx,I4.bk,he',raise_x (ob:={ cls:=.ref C,dict:=some dx,data:=.fields #[] }) (ws:=#[.ref t',.none,.none,.none,.bool false,.none]) L I5 he' h0 drop_same (by simp) rfl rfl ?_⟩
   have e5:drop H' e=upd H2 dx (DcO dx (xs.zip vs)):=by
    rw [eH]
    funext b
    unfold drop upd
    by_cases b1:b=e
    ·subst b1; rw [if_pos rfl,if_neg (Ne.symm d2)]; exact hn.symm
    ·by_cases b2:b=dx
     ·subst b2; simp [b1]
     ·simp [b1,b2]
   rw [e5]; exact hE dx d1
  | next=>exact False.elim hq'
  | brk=>exact False.elim hq'
  | cont=>exact False.elim hq'
theorem ps_raisI {B newId initId:String} {bmB:List Value} (FB:ExcBaseFacts B newId initId bmB) (L:Leaves X E) (hc:X.calm=true) (hg:Gl X x) (hm:X.mg x=some (.ref C)) (q:excInI X.K C bmB newId fa=true) (hf:isFn X.K (.ref fa)=true)
  (c:ErrC X.K C) (n:∀ y∈xs,NoAttr X.K C y) (Fk:FnOk X.prog X.w X.K X.mg X.base (CXE X.prog X.w) k fa fd (sf :: xs) (spI X.K xs)) (hr:Room (k + 1) X.A) (hb:Binds X.K fd (sf :: xs) []) (ha:PA X args t)
  (hpl:(backTo cpos (starEach args X.env)).any (·.1)=false) (hd:(x == ("__debug__" : Str))=false) (hst:args=[]∨∃ e es,args=e :: es∧starEach (e :: es) X.env=(false,eval e X.env) :: starEach es X.env) :
  PS X (.Raise (some (.Call (.Name x np) args [] cpos)) none pos) (fun D σ H=>t σ H fun vs H1=>vs.length=xs.length∧vs.length≤sizeLine∧∀ dx,H1 dx=none→E (.ref C) (some dx) (upd H1 dx (DcO dx (xs.zip vs)))):=by
 intro pins s σ H D I h
 obtain ⟨bm,N,nm,qn,bs,hdct,sn,sub,ab,col,dd,k0,k1,k2,k3,k5,mN,hC,hN,hi,T⟩:=exc_objI I.mod.kin q
 obtain ⟨oI,hfI,hfc⟩:=fn_there I.mod.kin hf
 refine raise_initT (C:=C) (nm:=nm) (q:=qn) (N:=N) (bs:=bs) (bm:=bm) (hdct:=hdct) (sn:=sn) (sub:=sub) (ab:=ab) (col:=col) (dd:=dd) (k0:=k0) (k1:=k1) (k2:=k2) (k3:=k3) (k5:=k5)
  FB (mN:=mN) (fI:=fa) (oI:=oI) (T.hasType FB.hasBase) (I.ok.hd hc) hpl hi hfc (ld_glob I hg hm ⟨rfl,?_⟩ hd)
 have fin:wpAny (model X.prog X.w) X.A (spliced (backTo cpos (starEach args X.env))) (fun us s₂=>us.length≤sizeLine∧s₂.heap.get? C=some (excClassObj nm qn C N bs bm hdct sn sub ab col dd k0 k1 k2 k3 k5 newId)∧s₂.heap.Ns N mN∧s₂.heap.get? fa=some oI∧OwnTail s₂.heap bmB bm ∧
   ∀ h' e,Heap.MadeExcOf s₂.heap h' e (.ref C) us→wpAny (model X.prog X.w) (X.A.under (.builtin "type.__call__" ⟨.ref C :: us,[]⟩)) (call (.ref fa) (.ref e :: us)) (fun r s'=>r = .none ∧
     ∃ t dx,s'.heap.get? C=some (excClassObj nm qn C N bs bm hdct sn sub ab col dd k0 k1 k2 k3 k5 newId)∧s'.heap.get? e=some { cls:=.ref C,dict:=dx,data:=.fields #[.ref t,.none,.none,.none,.bool false,.none] }∧X.xe (.ref e) s') X.xe { s₂ with heap:=h' }) X.xe s:=by
  refine thn (ha cpos pins s σ H _ I h) fun us s2 ⟨vs,H2,I2,r,z1,z,hE⟩=>?_
  exact ⟨by rw [← r.length]; exact z,I2.bk _ _ hC,hN.keeps I2.bk,I2.bk _ _ hfI,T.keeps I2.bk,fun h' e hx=>thn (ini_run L c n Fk hr hb I2 r z1 hE hx) fun u s' ⟨y,t,dx,y1,y2,y3⟩=>⟨y,t,dx,y1 _ _ hC,y2,y3⟩⟩
 rcases hst with rfl | ⟨e,es,rfl,he⟩
 ·unfold evalArgs
  show wpAny _ _ (spliced (backTo cpos (starEach [] X.env)) >>= _) _ _ _
  exact wpAny_bind (wpAny_mono fin (fun vs s' h'=>wpAny_holding (wpAny_bind (wpAny_pure (wpAny_bind (wpAny_pure (wpAny_pure ⟨rfl,h'⟩)))))) fun _ _ y=>y)
 ·rw [he] at fin ⊢
  exact Calls.evalArgs_plain (wpAny_mono fin (fun vs s₂ h₂=>⟨rfl,h₂⟩) fun _ _ y=>y)
end
theorem exc_get {prog:Program} {w:World} {A:Around} {E:Value→Shared→Prop} {s:Shared} {K:Frag} {x C:Addr} {name:Str} {ox:Obj} {od:Option Obj} {v:Value} {expr:Bool} {Q:Value→Shared→Prop} (X:K.In s.heap) (J:InstAt s.heap x ox C od) (c:ExcCls K C)
  (hf:findObj K C od name=some (.value v)) (hh:handedIn v=true) (h:Q v { s with toks:=s.toks + 1 }):wpAny (model prog w) A (getAttr (.ref x) name expr) Q E s:=by
 have I:ExcAt x C s.heap:=⟨ox,J.at_,J.cls⟩
 have L0:=I.ty (M:=model prog w)
 have L1:=looks_findIn (M:=model prog w) X c.ga
 have L2:=looks_findIn (M:=model prog w) X c.hk
 have fd:=looks_find (M:=model prog w) X J hf
 have bnd:=F.attr_ValueError.ga.bind (.ref x)
 have hx2:(Value.builtin "BaseException.__getattribute__" == Value.builtin "object.__getattribute__")=false:=by decide +kernel
 have hx3:onTheHeap (Value.builtin "BaseException.__getattribute__")=false:=rfl
 unfold getAttr
 refine wpAny_bind (wpAny_mkText ?_)
 unfold getAttrBy
 refine wpAny_holding (wpAny_bind (L0.at (wpAny_bind (L1.at ?_))))
 simp only [hx2,Bool.and_false,Bool.false_eq_true,if_false]
 unfold getAttrByItsOwn hookBefore
 refine wpAny_bind (L2.at ?_)
 refine wpAny_bind (wpAny_attempt (wpAny_holding ?_))
 unfold callGetattribute
 simp only [hx3,Bool.and_false,Bool.false_eq_true,if_false]
 unfold boundAndCalled
 refine wpAny_bind (wpAny_of_eq bnd ?_)
 show wpAny _ _ (call (.builtin "BaseException.__getattribute__") [.ref x,.str name s.toks]) _ _ _
 refine wpAny_call (codeAny_call_builtin F.attr_ValueError.ga.plain F.entry_bexc_ga (exc_check (s:={ s with toks:=s.toks + 1 }) X I c ?_))
 unfold Builtin.«object.__getattribute__»
 refine wpAny_bind (wpAny_pure (wpAny_bind (wpAny_pure (wpAny_bind (L0.at (wpAny_bind (fd.at ?_)))))))
 refine wpAny_pure ?_
 show wpAny _ _ (handedOut v) _ _ _
 rw [handedOut_of hh]
 exact wpAny_pure h
theorem geterr {X:Cx} {pins:List (Addr×Obj)} {σ:L2.St} {H:Hp} {s:Shared} {a C dx:Addr} {fs:List (Str×V)} {f:Str} {v:V} {o:Obj} {u:HO} {A:Around} {E:Value→Shared→Prop} {b:Bool} {Q:Value→Shared→Prop} (I:Inv X pins σ H s) (e:H a=some (.frz o u)) (hc:o.cls = .ref C) (hn:notCls o=true)
  (hd:o.dict=some dx) (ed:H dx=some (DcO dx fs)) (c:ExcCls X.K C) (n:NoAttr X.K C f) (hh:hasDictIn X.K C=true) (l:fs.lookup f=some v) (h:∀ u s',Inv X pins σ H s'→RelV v u→Q u s'):wpAny (model X.prog X.w) A (getAttr (.ref a) f b) Q E s:=by
 have ho:s.heap.get? a=some o:=(show ObjOk X.prog X.w H s.heap a (.frz o u) from I.hok a _ e).1
 obtain ⟨⟨mA,n1,r,wi⟩,_,_⟩:=(show ObjOk X.prog X.w H s.heap dx (DcO dx fs) from I.hok dx _ ed)
 obtain ⟨od,hod,hl⟩:=lookIn_ns n1
 have J:InstAt s.heap a o C (some od):=⟨ho,hc,hn,by rw [hd]; exact hod⟩
 obtain ⟨w,hw,rw'⟩:=RelO.some_of (v:=v) (o:=mA f) (by rw [← l]; exact r f)
 exact exc_get I.kIn J c (findObj_own hh n rfl (by rw [hl,hw])) (handed_of rw') (h w _ (I.tok _) rw')
end DW
end
section
set_option autoImplicit false
set_option maxHeartbeats 2000000
namespace DW
open PySem PySem.Spec PyProof.Rows L2
noncomputable def low (K:PySem.W.Frag) (sp:DSp):Sp:=fun vs H Q _=>∃ ds θ μ Qd,WOk K H θ μ∧Rps K H θ μ ds vs∧sp ds μ Qd∧Fin K H θ μ Qd Q
noncomputable def FinX (K:PySem.W.Frag) (H:Hp) (θ:List Addr) (μ:Mem) (Xd:QX) (E:XK):Prop:=∀ (H':Hp) (θ':List Addr) (μ':Mem) (c:String) (ks:List String) (ds:List D),WOk K H' θ' μ'→Grow H θ μ H' θ' μ'→Xd c ks ds μ'→XLand K E H' θ' μ' c ks ds
noncomputable def lowX (K:PySem.W.Frag) (sp:DSpX):Sp:=fun vs H Q E=>∃ ds θ μ Qd Xd,WOk K H θ μ∧Rps K H θ μ ds vs∧sp ds μ Qd Xd∧Fin K H θ μ Qd Q∧FinX K H θ μ Xd E
theorem passE {X:Cx}:Passes (CXE X.prog X.w) X E0:=fun _ _ _ _ _ _ _ h=>by
 obtain ⟨_,_,_,_,_,_,_,_,_,q⟩:=h
 exact q.elim
noncomputable def ClsVal (mg:Str→Option Value) (t:String) (v:V):Prop :=
 (∃ C,v = .ref C∧mg (Str.ofString t)=some (.ref C))∨(v = .ty t∧mg (Str.ofString t)=none∧bootBuiltins (Str.ofString t)=some (.type t)∧Str.ofString t≠"__name__")
noncomputable def ClsVals (mg:Str→Option Value):List String→List V→Prop
 | [],[]=>True
 | t :: ts,v :: vs=>ClsVal mg t v∧ClsVals mg ts vs
 | _,_=>False
noncomputable def clsU:V→Value
 | .ref a=>.ref a
 | .ty n=>.type n
 | _=>.none
noncomputable def IsxAt (K:PySem.W.Frag) (mg:Str→Option Value) (tt:Bool) (ts:List String) (tab:List (String×Bool)):Prop:=∃ vs,ClsVals mg ts vs∧∀ p∈tab,∃ C,PySem.W.nsIn K mainGlobals (Str.ofString p.1)=some (some (.ref C))∧ExcCls K C ∧
 (if tt=true then PySem.W.kitAny K (.ref C) (vs.map clsU)=some p.2 else ∃ v,vs=[v]∧PySem.W.kitOne K (.ref C) (clsU v)=some p.2)
noncomputable def HdlAt (K:PySem.W.Frag) (mg:Str→Option Value) (P:String) (tab:List String):Prop:=∃ CP,mg (Str.ofString P)=some (.ref CP)∧∀ c∈tab,∃ C,PySem.W.nsIn K mainGlobals (Str.ofString c)=some (some (.ref C))∧PySem.W.exmOne K (.ref C) (.ref CP)=some true
noncomputable def RseAt (K:PySem.W.Frag) (mg:Str→Option Value) (c:String):Prop:=∃ C,PySem.W.nsIn K mainGlobals (Str.ofString c)=some (some (.ref C))∧mg (Str.ofString c)=some (.ref C)∧PySem.W.excIn K C bmVE "ValueError.__new__" = true
noncomputable def IniAt (P:Program) (w:World) (K:PySem.W.Frag) (mg:Str→Option Value) (base:Heap) (c:String) (ks:List String):Prop:=∃ (C fa:Addr) (fd:FuncData) (sf:Str),PySem.W.nsIn K mainGlobals (Str.ofString c)=some (some (.ref C))∧mg (Str.ofString c)=some (.ref C) ∧
 excInI K C bmVE "ValueError.__new__" fa=true∧PySem.W.isFn K (.ref fa)=true∧ErrC K C∧(∀ y∈ks.map (fun k=>Str.ofString k),NoAttr K C y)∧Binds K fd (sf :: ks.map (fun k=>Str.ofString k)) []∧ks≠[]∧ks.length≤9 ∧
 FnOk P w K mg base (CXE P w) 1 fa fd (sf :: ks.map (fun k=>Str.ofString k)) (spI K (ks.map (fun k=>Str.ofString k)))
noncomputable def EflAt (K:PySem.W.Frag) (f:String) (tab:List String):Prop:=∀ c∈tab,∃ C,PySem.W.nsIn K mainGlobals (Str.ofString c)=some (some (.ref C))∧ExcCls K C∧NoAttr K C (Str.ofString f)∧PySem.W.hasDictIn K C=true
noncomputable def FnRef (X:Cx):Rf→DSp→Prop
 | .fn x,sp=>∃ (fa:Addr) (fd:FuncData) (ps:List Str) (k:Nat),X.mg x=some (.ref fa)∧PySem.W.keepIn X.K (.ref fa)=true∧Binds X.K fd ps []∧FnOk X.prog X.w X.K X.mg X.base (CXE X.prog X.w) k fa fd ps (low X.K sp)∧Room k X.A
 | .mth c m,sp=>∃ (C fa:Addr) (fd:FuncData) (ps:List Str) (k:Nat),PySem.W.nsIn X.K mainGlobals (Str.ofString c)=some (some (.ref C))∧Cls X.K C∧Meth X.K C (Str.ofString m) fa∧Binds X.K fd ps []∧FnOk X.prog X.w X.K X.mg X.base (CXE X.prog X.w) k fa fd ps (low X.K sp)∧Room k X.A
 | .mk c,sp=>∃ (C fa:Addr) (fd:FuncData) (ps:List Str) (k:Nat),PySem.W.nsIn X.K mainGlobals (Str.ofString c)=some (some (.ref C))∧X.mg (Str.ofString c)=some (.ref C)∧Mk X.K C fa∧Binds X.K fd ps []∧FnOk X.prog X.w X.K X.mg X.base (CXE X.prog X.w) k fa fd ps (low X.K sp)∧Room (k + 1) X.A
 | .fld c f,_=>∃ C:Addr,PySem.W.nsIn X.K mainGlobals (Str.ofString c)=some (some (.ref C))∧Cls X.K C∧NoAttr X.K C (Str.ofString f)
 | .fnX x sp,_=>∃ (fa:Addr) (fd:FuncData) (ps:List Str) (k:Nat),X.mg x=some (.ref fa)∧PySem.W.keepIn X.K (.ref fa)=true∧Binds X.K fd ps []∧FnOk X.prog X.w X.K X.mg X.base (CXE X.prog X.w) k fa fd ps (lowX X.K sp)∧Room k X.A
 | .mthX c m sp,_=>∃ (C fa:Addr) (fd:FuncData) (ps:List Str) (k:Nat),PySem.W.nsIn X.K mainGlobals (Str.ofString c)=some (some (.ref C))∧Cls X.K C∧Meth X.K C (Str.ofString m) fa∧Binds X.K fd ps []∧FnOk X.prog X.w X.K X.mg X.base (CXE X.prog X.w) k fa fd ps (lowX X.K sp)∧Room k X.A
 | .mkX c sp,_=>∃ (C fa:Addr) (fd:FuncData) (ps:List Str) (k:Nat),PySem.W.nsIn X.K mainGlobals (Str.ofString c)=some (some (.ref C))∧X.mg (Str.ofString c)=some (.ref C)∧Mk X.K C fa∧Binds X.K fd ps []∧FnOk X.prog X.w X.K X.mg X.base (CXE X.prog X.w) k fa fd ps (lowX X.K sp)∧Room (k + 1) X.A
 | .rse c,_=>RseAt X.K X.mg c
 | .fnM x,sp=>∃ (fa:Addr) (fd:FuncData) (ps:List Str),X.mg x=some (.ref fa)∧PySem.W.keepIn X.K (.ref fa)=true∧Binds X.K fd ps []∧FnOk X.prog X.w X.K X.mg X.base (CXE X.prog X.w) 15 fa fd ps (low X.K sp)∧Room 15 X.A
 | .rsi c ks,_=>IniAt X.prog X.w X.K X.mg X.base c ks∧Room 2 X.A
 | .efl f tab,_=>EflAt X.K f tab
 | .hdl P tab,_=>HdlAt X.K X.mg P tab
 | .isx tt ts tab,_=>IsxAt X.K X.mg tt ts tab
noncomputable def GblRef (X:Cx) (x:Str) (d:D):Prop:=∃ (u:Value) (v:V),X.mg x=some u∧RelV v u∧∀ H θ μ,Rp X.K H θ μ d v
structure CtxOk (X:Cx) (c:Ctx):Prop where
 N:X.N=c.N
 nd:c.N.Nodup
 vis:∀ x,c.vis x=true→Vis X.env.scope x
 loc:∀ x,c.loc x=true→Loc X.env.scope x∧(X.fn x=true∨X.env.scope.names.lookup x=some .local)
 isl:∀ x,isLocal c x=true→X.env.scope.names.lookup x=some .local
 glb:∀ x,c.glb x=true→Gl X x
 clo:∀ x,(c.names.lookup x=some .cell∨c.names.lookup x=some .free)→(X.env.kindOf x=some .cell∨X.env.kindOf x=some .free)
 blt:∀ x,c.blts.contains x=true→X.mg x=none
 calm:c.calm=true→X.calm=true
 room:∃ k,Room k X.A
 pas:PassesOwn (model X.prog X.w) X.A X.env X.xe
theorem at_some {c:Ctx} {i:Nat} {x:Str} (h:c.at_ i x=true):c.N[i]? = some x:=by
 unfold Ctx.at_ at h
 split at h
 ·rename_i y e; rw [e,of_decide_eq_true h]
 ·cases h
theorem star_of {e:Expr} {es:List Expr} {env:Env} (h:notStar e=true):starEach (e :: es) env=(false,eval e env) :: starEach es env:=by
 cases e <;> first | rfl | exact (Bool.false_ne_true h).elim
theorem any_star {c:Ctx} {pos:Pos} {env:Env}:∀ {es:Es} {as:List Expr},mEs c es as=true→(backTo pos (starEach as env)).any (·.1)=false
 | .nil,as,h=>by
  have:as=[]:=by simpa [mEs] using h
  subst this; rfl
 | .cons e es,as,h=>by
  cases as with
  | nil=>simp [mEs] at h
  | cons a as =>
   simp only [mEs,Bool.and_eq_true] at h
   rw [star_of h.1.2]
   show (false || (backTo pos (starEach as env)).any (·.1))=false
   rw [any_star h.2]; rfl
theorem esLen_eq {c:Ctx}:∀ {es:Es} {as:List Expr},mEs c es as=true→esLen es=as.length
 | .nil,as,h=>by
  have:as=[]:=by simpa [mEs] using h
  subst this; rfl
 | .cons e es,as,h=>by
  cases as with
  | nil=>simp [mEs] at h
  | cons a as =>
   simp only [mEs,Bool.and_eq_true] at h
   simp [esLen,esLen_eq h.2]
theorem oddName_of {x:Str} (h:oddName x=false):(x == ("__debug__" : Str))=false∧(x == ("__classdict__" : Str))=false:=by
 unfold oddName at h
 exact Bool.or_eq_false_iff.mp h
theorem set_of {op:CmpOp} {e:Expr} (h:notSet e=true):behindInMarks op e=false:=by
 cases e <;> first | rfl | exact (Bool.false_ne_true h).elim
theorem folded_of {e:Expr} {env:Env} (h:notSet e=true):∀ v,foldedSetIterable e env v=pure v:=by
 intro v
 cases e <;> first | rfl | exact (Bool.false_ne_true h).elim
theorem plainIx_of {e:Expr} (h:plainIxB e=true):PlainIx e:=by
 intro o i
 cases e <;> first | rfl | exact (Bool.false_ne_true h).elim
theorem swap_of {e:Expr} {t:Option Expr} {n:Nat} {env:Env} (h:notComp e=true):swapsWith e t n env=pure false:=by
 cases e <;> first | rfl | exact (Bool.false_ne_true h).elim
structure Snd (X:Cx) (e:E) (a:Expr):Prop where
 pe:PE X a (LE X.K (wE e))
 pt:PT X a (LT X.K (wT e))
 pw:∀ op vs pos,a = .BoolOp op vs pos→PW X a (LT X.K (wT e))
section
variable {X:Cx}
theorem pt_never {a:Expr}:PT X a (LT X.K fun _ _ _=>False):=fun pins s σ H Q I h=>by obtain ⟨_,_,_,_,_,h,_⟩:=h; exact h.elim
theorem lt_bl {t:TE} {w:WE} {σ:L2.St} {H:Hp} {Q:Bool→Hp→Prop} (ht:∀ σ H Q,LE X.K w σ H Q→t σ H Q) (h:LT X.K (fun ρ μ Q=>w ρ μ fun r μ1=>wBl r μ1 Q) σ H Q):tTest t σ H Q:=by
 obtain ⟨ρ,θ,μ,Qd,s,h,f⟩:=h
 refine ht σ H _ ⟨ρ,θ,μ,_,s,h,fun r v H1 θ1 μ1 w1 g1 r1 h1=>?_⟩
 cases r with
 | bl b=>exact ⟨b,inv_bl r1,f b H1 θ1 μ1 w1 g1 h1⟩
 | _=>exact h1.elim
theorem le_chain {p q:CmpOp} {wa wb wc:WE} {σ:L2.St} {H:Hp} {Q:VK}
  (h:LE X.K (fun ρ μ Q=>wa ρ μ fun x μ1=>wb ρ μ1 fun y μ2=>wCmp p x y μ2 fun r μ3=>wBl r μ3 fun t μ3=>if t=true then wc ρ μ3 fun z μ4=>wCmp q y z μ4 Q else Q (.bl false) μ3) σ H Q) :
  tChain (low2 X.K (wCmp p)) (low2 X.K (wCmp q)) (LE X.K wa) (LE X.K wb) (LE X.K wc) σ H Q:=by
 obtain ⟨ρ,θ,μ,Qd,s,h,f⟩:=h
 refine ⟨ρ,θ,μ,_,s,h,fun x v H1 θ1 μ1 w1 g1 r1 h1=>⟨ρ,θ1,μ1,_,s.grow w1 g1,h1,fun y v2 H2 θ2 μ2 w2 g2 r2 h2=>⟨x,y,θ2,μ2,_,w2,g2.rep r1,r2,h2,fun r v3 H3 θ3 μ3 w3 g3 r3 h3=>?_⟩⟩⟩
 cases r with
 | bl b =>
  refine ⟨b,inv_bl r3,?_⟩
  have g13:=(g1.trans g2).trans g3
  cases b with
  | true =>
   exact ⟨ρ,θ3,μ3,_,s.grow w3 g13,h3,fun z v4 H4 θ4 μ4 w4 g4 r4 h4=>⟨y,z,θ4,μ4,Qd,w4,(g3.trans g4).rep r2,r4,h4,f.mono (g13.trans g4)⟩⟩
  | false=>exact (f.mono g13).at w3 rp_bl h3
 | _=>exact h3.elim
theorem le_and {wa wb:WE} {σ:L2.St} {H:Hp} {Q:VK} (h:LE X.K (fun ρ μ Q=>wa ρ μ fun x μ1=>wBl x μ1 fun t μ2=>if t=true then wb ρ μ2 Q else Q (.bl false) μ2) σ H Q):tAndV (LE X.K wa) (LE X.K wb) σ H Q:=by
 obtain ⟨ρ,θ,μ,Qd,s,h,f⟩:=h
 refine ⟨ρ,θ,μ,_,s,h,fun x v H1 θ1 μ1 w1 g1 r1 h1=>?_⟩
 cases x with
 | bl b =>
  refine ⟨b,inv_bl r1,?_⟩
  cases b with
  | true=>exact ⟨ρ,θ1,μ1,Qd,s.grow w1 g1,h1,f.mono g1⟩
  | false=>exact (f.mono g1).at w1 rp_bl h1
 | _=>exact h1.elim
theorem le_or {wa wb:WE} {σ:L2.St} {H:Hp} {Q:VK} (h:LE X.K (fun ρ μ Q=>wa ρ μ fun x μ1=>wBl x μ1 fun t μ2=>if t=true then Q (.bl true) μ2 else wb ρ μ2 Q) σ H Q):tOrV (LE X.K wa) (LE X.K wb) σ H Q:=by
 obtain ⟨ρ,θ,μ,Qd,s,h,f⟩:=h
 refine ⟨ρ,θ,μ,_,s,h,fun x v H1 θ1 μ1 w1 g1 r1 h1=>?_⟩
 cases x with
 | bl b =>
  refine ⟨b,inv_bl r1,?_⟩
  cases b with
  | false=>exact ⟨ρ,θ1,μ1,Qd,s.grow w1 g1,h1,f.mono g1⟩
  | true=>exact (f.mono g1).at w1 rp_bl h1
 | _=>exact h1.elim
theorem lt_and {wa wb:WT} {σ:L2.St} {H:Hp} {Q:Bool→Hp→Prop} (h:LT X.K (fun ρ μ Q=>wa ρ μ fun t μ1=>if t=true then wb ρ μ1 Q else Q false μ1) σ H Q):tAnd (LT X.K wa) (LT X.K wb) σ H Q:=by
 obtain ⟨ρ,θ,μ,Qd,s,h,f⟩:=h
 refine ⟨ρ,θ,μ,_,s,h,fun b H1 θ1 μ1 w1 g1 h1=>?_⟩
 cases b with
 | true=>exact ⟨ρ,θ1,μ1,Qd,s.grow w1 g1,h1,fun b H2 θ2 μ2 w2 g2 q=>f b H2 θ2 μ2 w2 (g1.trans g2) q⟩
 | false=>exact f false H1 θ1 μ1 w1 g1 h1
theorem lt_or {wa wb:WT} {σ:L2.St} {H:Hp} {Q:Bool→Hp→Prop} (h:LT X.K (fun ρ μ Q=>wa ρ μ fun t μ1=>if t=true then Q true μ1 else wb ρ μ1 Q) σ H Q):tOr (LT X.K wa) (LT X.K wb) σ H Q:=by
 obtain ⟨ρ,θ,μ,Qd,s,h,f⟩:=h
 refine ⟨ρ,θ,μ,_,s,h,fun b H1 θ1 μ1 w1 g1 h1=>?_⟩
 cases b with
 | false=>exact ⟨ρ,θ1,μ1,Qd,s.grow w1 g1,h1,fun b H2 θ2 μ2 w2 g2 q=>f b H2 θ2 μ2 w2 (g1.trans g2) q⟩
 | true=>exact f true H1 θ1 μ1 w1 g1 h1
theorem le_ife {wt:WT} {wa wb:WE} {σ:L2.St} {H:Hp} {Q:VK} (h:LE X.K (fun ρ μ Q=>wt ρ μ fun t μ1=>if t=true then wa ρ μ1 Q else wb ρ μ1 Q) σ H Q):tIf (LT X.K wt) (LE X.K wa) (LE X.K wb) σ H Q:=by
 obtain ⟨ρ,θ,μ,Qd,s,h,f⟩:=h
 refine ⟨ρ,θ,μ,_,s,h,fun b H1 θ1 μ1 w1 g1 h1=>?_⟩
 cases b with
 | true=>exact ⟨ρ,θ1,μ1,Qd,s.grow w1 g1,h1,f.mono g1⟩
 | false=>exact ⟨ρ,θ1,μ1,Qd,s.grow w1 g1,h1,f.mono g1⟩
theorem inv_frzd {pins:List (Addr×Obj)} {σ:L2.St} {H:Hp} {s:Shared} {a:Addr} {kvs:List (Key×V)} (I:Inv X pins σ H s) (e:H a=some (.dK kvs)):∃ o,Inv X pins σ (upd H a (.frz o (.dK kvs))) s:=by
 have ok:ObjOk X.prog X.w H s.heap a (.dK kvs):=I.hok a _ e
 obtain ⟨hz,hs,vs,rel,o,es,ep,q1,q2⟩:=id ok
 refine ⟨o,?_⟩
 have ne:∀ {b:Addr} {u:HO},H b=some u→(∀ k,u≠.dK k)→b≠a:=fun {b u} h1 h2 z=>by subst z; rw [e] at h1; cases h1; exact h2 _ rfl
 have nn:∀ {b:Addr},H b=none→b≠a:=fun {b} h1 z=>by subst z; rw [e] at h1; cases h1
 refine ⟨I.ok,I.os,I.bare,⟨I.base.keep,I.base.slot,fun b ob q n hx=>?_,I.base.there,fun b xs q=>?_,fun b ob u q=>?_,fun b ps q=>?_⟩,I.loc,I.cell,?_,fun x c e=>?_,fun p hpp=>?_,fun b u e1=>?_,I.len,I.hh.mono fun b o u q=>by rw [upd_ne (ne q (by simp))]; exact q⟩
 ·have:=I.base.free b ob q n hx
  rw [upd_ne (nn this)]; exact this
 ·have:=I.base.tups b xs q
  rw [upd_ne (ne this (by simp))]; exact this
 ·have:=I.base.frzs b ob u q
  rw [upd_ne (ne this (by simp))]; exact this
 ·obtain ⟨more,this⟩:=I.base.tbls b ps q
  exact ⟨more,by rw [upd_ne (ne this (by simp))]; exact this⟩
 ·rw [upd_ne (nn I.free)]; exact I.free
 ·rw [upd_ne (nn (I.freeC x c e))]; exact I.freeC x c e
 ·obtain ⟨q1,q2,q3,q4,q5⟩:=I.pin p hpp
  exact ⟨q1,by rw [upd_ne (nn q2)]; exact q2,q3,q4,q5⟩
 ·have st:∀ {b:Addr} {u:HO},ObjOk X.prog X.w H s.heap b u→ObjOk X.prog X.w (upd H a (.frz o (.dK kvs))) s.heap b u:=fun {b u} h=>h.stay (fun _ _ _ q=>q) (fun c q=>by rw [upd_ne (ne q (by simp))]; exact q) fun c xs q=>by rw [upd_ne (ne q (by simp))]; exact q
  by_cases hb:b=a
  ·subst hb
   rw [upd_same] at e1; cases e1
   exact ⟨q1,st ok⟩
  ·rw [upd_ne hb] at e1
   exact st (I.hok b u e1)
theorem inv_frzt {pins:List (Addr×Obj)} {σ:L2.St} {H:Hp} {s:Shared} {a:Addr} {kvs:List (List Key×V)} (I:Inv X pins σ H s) (e:H a=some (.dT kvs)):∃ o,Inv X pins σ (upd H a (.frz o (.dT kvs))) s:=by
 have ok:ObjOk X.prog X.w H s.heap a (.dT kvs):=I.hok a _ e
 obtain ⟨hz,hs,xs,rel,o,es,ep,q1,q2⟩:=id ok
 refine ⟨o,?_⟩
 have ne:∀ {b:Addr} {u:HO},H b=some u→(∀ k,u≠.dT k)→b≠a:=fun {b u} h1 h2 z=>by subst z; rw [e] at h1; cases h1; exact h2 _ rfl
 have nn:∀ {b:Addr},H b=none→b≠a:=fun {b} h1 z=>by subst z; rw [e] at h1; cases h1
 refine ⟨I.ok,I.os,I.bare,⟨I.base.keep,I.base.slot,fun b ob q n hx=>?_,I.base.there,fun b xs q=>?_,fun b ob u q=>?_,fun b ps q=>?_⟩,I.loc,I.cell,?_,fun x c e=>?_,fun p hpp=>?_,fun b u e1=>?_,I.len,I.hh.mono fun b o u q=>by rw [upd_ne (ne q (by simp))]; exact q⟩
 ·have:=I.base.free b ob q n hx
  rw [upd_ne (nn this)]; exact this
 ·have:=I.base.tups b xs q
  rw [upd_ne (ne this (by simp))]; exact this
 ·have:=I.base.frzs b ob u q
  rw [upd_ne (ne this (by simp))]; exact this
 ·obtain ⟨more,this⟩:=I.base.tbls b ps q
  exact ⟨more,by rw [upd_ne (ne this (by simp))]; exact this⟩
 ·rw [upd_ne (nn I.free)]; exact I.free
 ·rw [upd_ne (nn (I.freeC x c e))]; exact I.freeC x c e
 ·obtain ⟨q1,q2,q3,q4,q5⟩:=I.pin p hpp
  exact ⟨q1,by rw [upd_ne (nn q2)]; exact q2,q3,q4,q5⟩
 ·have st:∀ {b:Addr} {u:HO},ObjOk X.prog X.w H s.heap b u→ObjOk X.prog X.w (upd H a (.frz o (.dT kvs))) s.heap b u:=fun {b u} h=>h.stay (fun _ _ _ q=>q) (fun c q=>by rw [upd_ne (ne q (by simp))]; exact q) fun c xs q=>by rw [upd_ne (ne q (by simp))]; exact q
  by_cases hb:b=a
  ·subst hb
   rw [upd_same] at e1; cases e1
   exact ⟨q1,st ok⟩
  ·rw [upd_ne hb] at e1
   exact st (I.hok b u e1)
theorem Grow.frzd {K:PySem.W.Frag} {H:Hp} {θ:List Addr} {μ:Mem} {n:Nat} {a:Addr} {c:Cell} {o:HO} (w:WOk K H θ μ) (hn:μ[n]? = some c) (hc:c≠.gone) (ha:θ[n]? = some a):Grow H θ μ (upd H a o) θ (μ.set n .gone) where
 pre:=fun _ _ h=>h
 keep:=fun b u h k=>by
  have:b≠a:=by rintro rfl; exact k ⟨n,c,ha,hn,hc⟩
  exact ⟨by rw [upd_ne this]; exact h,((Grow.frz (H:=H) (θ:=θ) (μ:=μ) (n:=n)).keep b u h k).2⟩
theorem WOk.frzd {K:PySem.W.Frag} {H:Hp} {θ:List Addr} {μ:Mem} {n:Nat} {a:Addr} {c:Cell} {o:HO} (w:WOk K H θ μ) (hn:μ[n]? = some c) (hc:c≠.gone) (ha:θ[n]? = some a):WOk K (upd H a o) θ (μ.set n .gone) where
 len:=by simp [w.len]
 inj:=w.inj
 bnd:=fun m b h k=>by
  unfold upd at k
  split at k
  ·cases k
  ·exact w.bnd m b h k
 cell:=fun m c1 b h k=>by
  by_cases q:m=n
  ·subst q
   rw [List.getElem?_set_self (List.getElem?_eq_some_iff.mp hn).1] at h
   cases h
   trivial
  ·rw [List.getElem?_set_ne (Ne.symm q)] at h
   have hb:b≠a:=fun z=>q (w.inj m n b k (by rw [z]; exact ha))
   exact (w.cell m c1 b h k).mono (Grow.frzd w hn hc ha) fun u e=>by rw [upd_ne hb]; exact e
theorem pe_frzD {a:Expr} {wa:WE} (h:PE X a (LE X.K wa)):PE X a (LE X.K fun ρ μ Q=>wa ρ μ fun d μ1=>wFrz d μ1 Q):=fun pins s0 σ H Q I q=>by
 obtain ⟨ρ,θ,μ,Qd,s,hw,f⟩:=q
 refine thn (h pins s0 σ H (fun x H1=>∃ d θ1 μ1,WOk X.K H1 θ1 μ1∧Grow H θ μ H1 θ1 μ1∧Rp X.K H1 θ1 μ1 d x∧wFrz d μ1 Qd) I ⟨ρ,θ,μ,_,s,hw,fun d v H1 θ1 μ1 w1 g1 r1 h1=>⟨d,θ1,μ1,w1,g1,r1,h1⟩⟩) fun vv s1 ⟨v,H1,I1,rv,d,θ1,μ1,w1,g1,r1,h1⟩=>?_
 have f1:=f.mono g1
 cases d with
 | loc n =>
  simp only [wFrz] at h1
  split at h1
  ·rename_i ds hn
   obtain ⟨a,rfl,ha⟩:=inv_loc r1
   obtain ⟨xs,hx,rs⟩:=w1.list hn ha
   refine ⟨.ref a,H1,I1,rv,f1 (.lst ds) (.ref a) H1 θ1 (μ1.set n .gone) w1.frz Grow.frz ?_ h1⟩
   unfold Rep
   exact ⟨a,xs,rfl,hx,gone_notLive w1 ha,Grow.frz.reps rs⟩
  ·rename_i ks ds hn
   obtain ⟨a,rfl,ha⟩:=inv_loc r1
   obtain ⟨kvs,hx,h2,rs⟩:=w1.cell n _ a hn ha
   obtain ⟨o,I2⟩:=inv_frzd I1 hx
   have g2:Grow H1 θ1 μ1 (upd H1 a (.frz o (.dK kvs))) θ1 (μ1.set n .gone):=Grow.frzd w1 hn (by simp) ha
   refine ⟨.ref a,_,I2,rv,f1 (.fdc ks ds) (.ref a) _ θ1 (μ1.set n .gone) (w1.frzd hn (by simp) ha) g2 ?_ h1⟩
   unfold Rep
   exact ⟨a,o,kvs,rfl,upd_same,gone_notLive w1 ha,h2,g2.reps rs⟩
  ·rename_i ks ds hn
   obtain ⟨a,rfl,ha⟩:=inv_loc r1
   obtain ⟨kvs,hx,h2,rs⟩:=w1.cell n _ a hn ha
   obtain ⟨o,I2⟩:=inv_frzt I1 hx
   have g2:Grow H1 θ1 μ1 (upd H1 a (.frz o (.dT kvs))) θ1 (μ1.set n (.fdt o ks ds)):=Grow.write hn ha (by simp) (by simp)
   refine ⟨.ref a,_,I2,rv,f1 (.loc n) (.ref a) _ θ1 (μ1.set n (.fdt o ks ds)) (w1.write (c':=.fdt o ks ds) hn ha (by simp) (by simp) ⟨kvs,upd_same,h2,g2.reps rs⟩) g2 ?_ (h1 o)⟩
   unfold Rep
   exact ⟨a,rfl,ha⟩
  ·exact ⟨v,H1,I1,rv,f1.at w1 r1 h1⟩
  ·exact h1.elim
 | _=>exact ⟨v,H1,I1,rv,f1.at w1 r1 h1⟩
theorem pe_callD {x:Str} {sp:DSp} {ws:WA} {p pos:Pos} {e:Expr} {es:List Expr} (R:FnRef X (.fn x) sp) (hg:Gl X x) (ha:PA X (e :: es) (LA X.K ws)) (hdb:(x == ("__debug__" : Str))=false) (hs:starEach (e :: es) X.env=(false,eval e X.env) :: starEach es X.env)
  (hpl:(backTo pos (starEach es X.env)).any (·.1)=false):PE X (.Call (.Name x p) (e :: es) [] pos) (LE X.K fun ρ μ Q=>ws ρ μ fun ds μ1=>sp ds μ1 Q):=by
 obtain ⟨fa,fd,ps,k,hm,hk,hb,F,hr⟩:=R
 refine PE.wk (pe_call F hr hg hm hk hb .nil passE ha hdb hs hpl) fun σ H Q h=>?_
 obtain ⟨ρ,θ,μ,Qd,s,h,f⟩:=h
 refine ⟨ρ,θ,μ,_,s,h,fun ds vs H1 θ1 μ1 w1 g1 r1 h1=>?_⟩
 dsimp only
 rw [List.append_nil]
 exact ⟨ds,θ1,μ1,Qd,w1,r1,h1,f.mono g1⟩
theorem pe_call0D {x:Str} {sp:DSp} {p pos:Pos} (R:FnRef X (.fn x) sp) (hg:Gl X x) (hdb:(x == ("__debug__" : Str))=false):PE X (.Call (.Name x p) [] [] pos) (LE X.K fun ρ μ Q=>sp [] μ Q):=by
 obtain ⟨fa,fd,ps,k,hm,hk,hb,F,hr⟩:=R
 refine PE.wk (pe_call0 F hr hg hm hk hb .nil passE hdb) fun σ H Q h=>?_
 obtain ⟨ρ,θ,μ,Qd,s,h,f⟩:=h
 exact ⟨[],θ,μ,Qd,s.wok,Reps.nil,h,f⟩
end
theorem capNames_get {c:Ctx}:∀ {cap:List Nat} {cs:List Str},capNames c cap=some cs→cs.length=cap.length∧∀ (j:Nat) (y:Str),cs[j]? = some y→∃ i,cap[j]? = some i∧c.N[i]? = some y
 | [],cs,h=>by simp only [capNames,Option.some.injEq] at h; subst h; exact ⟨rfl,fun j y e=>by simp at e⟩
 | i :: is,cs,h=>by
  simp only [capNames] at h
  split at h
  ·rename_i x r e1 e2
   simp only [Option.some.injEq] at h
   subst h
   obtain ⟨h1,h2⟩:=capNames_get e2
   refine ⟨by simp [h1],fun j y e=>?_⟩
   cases j with
   | zero=>simp at e; subst e; exact ⟨i,rfl,e1⟩
   | succ j =>
    obtain ⟨i',a1,a2⟩:=h2 j y (by simpa using e)
    exact ⟨i',by simpa using a1,a2⟩
  ·cases h
theorem compTxt_of {X:Cx} {c:Ctx} {scope:Scope} {xs:List Str} {cap:List Nat} {cs:List Str} (C:CtxOk X c) (h1:capNames c cap=some cs) (h:compC c scope (xs ++ cs) cs=true):CompTxt X xs scope (xs ++ cs) cap:=by
 simp only [compC,Bool.and_eq_true,List.all_eq_true] at h
 obtain ⟨⟨⟨⟨⟨k1,k2⟩,k3⟩,k5⟩,k6⟩,k7⟩:=h
 obtain ⟨hl,hg⟩:=capNames_get h1
 refine ⟨by simpa using k1,fun y hy hc=>?_,fun y hy hloc=>?_,of_decide_eq_true k5,fun j y e=>?_,by simp [hl],fun y hy hf=>?_⟩
 ·have:=k2 y hy
  rw [hc] at this
  simpa using this
 ·have:=k3 y hy
  rw [hloc] at this
  simpa using this
 ·have e':cs[j]? = some y:=by
   rw [List.getElem?_append_right (by omega)] at e
   simpa using e
  obtain ⟨i,a1,a2⟩:=hg j y e'
  refine ⟨i,a1,by rw [C.N]; exact a2,?_⟩
  have:=k6 y (List.mem_of_getElem? e')
  simpa using this
 ·have:=k7 y hy
  rw [hf] at this
  refine C.clo y.1 ?_
  simpa using this
theorem ctx_comp {X:Cx} {c:Ctx} {scope:Scope} {xs:List Str} {cs:List Str} (C:CtxOk X c) (h:compC c scope (xs ++ cs) cs=true) (cl:List (Str×Addr)) (Ca:Addr) (s:Shared) (H:Hp) (ex:List Addr) :
  CtxOk (compX X (xs ++ cs) scope cl Ca s H ex) (c.in_ (xs ++ cs) scope.names):=by
 simp only [compC,Bool.and_eq_true,List.all_eq_true] at h
 obtain ⟨⟨⟨⟨⟨k1,k2⟩,k3⟩,k5⟩,k6⟩,k7⟩:=h
 have cel:∀ y,scope.names.lookup y=some .cell→(relabel scope X.env).names.lookup y=some .cell:=fun y z=>relabel_cell z
 have lk:∀ y,scope.names.lookup y=some .local→(relabel scope X.env).names.lookup y=some .local:=fun y z=>lookup_relabel_local z
 refine ⟨rfl,of_decide_eq_true k5,fun y hy=>?_,fun y hy=>?_,fun y hy=>?_,fun y hy=>?_,fun y hy=>?_,C.blt,C.calm,C.room,PassesOwn.never⟩
 ·unfold Ctx.vis at hy
  split at hy
  ·rename_i z; exact .inl (lk y z)
  ·rename_i z; exact .inr (.inl (cel y z))
  ·rename_i z
   rcases relabel_free (env:=X.env) z with q | q
   ·exact .inr (.inr q)
   ·exact .inr (.inl q)
  ·cases hy
 ·unfold Ctx.loc at hy
  split at hy
  ·rename_i z; exact ⟨.inl (lk y z),.inr (lk y z)⟩
  ·rename_i z; exact ⟨.inr (cel y z),.inl (by show (scope.names.lookup y == some .cell)=true; rw [z]; rfl)⟩
  ·cases hy
 ·exact lk y (by simpa [isLocal] using hy)
 ·unfold Ctx.glb at hy
  split at hy
  ·rename_i z
   show (relabel scope X.env).names.lookup y=some .globalImplicit
   exact relabel_glob z
  ·cases hy
 ·rcases hy with hy | hy
  ·exact .inl (cel y hy)
  ·exact (relabel_free (env:=X.env) hy).symm
section
variable {X:Cx}
theorem mNames_pgs {c:Ctx} (C:CtxOk X c):∀ {is:List Nat} {ts:List Expr},mNames c is ts=true→PGs X ts (gNames is)∧(assignEach ts X.env).length=is.length∧(assignEach ts X.env).findIdx? (·.1)=none
 | [],[],_=>⟨pgs_nil,rfl,rfl⟩
 | [],_ :: _,h=>by simp [mNames] at h
 | _ :: _,[],h=>by simp [mNames] at h
 | i :: is,t :: ts,h=>by
  simp only [mNames,Bool.and_eq_true] at h
  obtain ⟨h1,h2⟩:=h
  cases t with
  | Name x p =>
   simp only [Bool.and_eq_true] at h1
   obtain ⟨k1,k2,k3⟩:=mNames_pgs C h2
   obtain ⟨l1,l2⟩:=C.loc x h1.2
   refine ⟨pgs_cons (pg_name (by rw [C.N]; exact C.nd) (by rw [C.N]; exact at_some h1.1) l1 l2) k1 rfl,?_,?_⟩
   ·show (assignEach ts X.env).length + 1=_
    rw [k2]; rfl
   ·show List.findIdx? (fun x=>x.1) ((false,assign (.Name x p) X.env) :: assignEach ts X.env)=none
    rw [List.findIdx?_cons]
    simp [k3]
  | _=>simp at h1
theorem pg_of {c:Ctx} (C:CtxOk X c) {is:List Nat} {tt:Bool} (hcm:tt=true→c.calm=true) {a:Expr} (h:mTg c is tt a=true):PG X a (LG X.K fun d r k=>bindT is tt d r k):=by
 cases tt with
 | false =>
  have h:mNames c is [a]=true:=h
  match is,h with
  | [i],h =>
   cases a with
   | Name x p =>
    simp only [mNames,Bool.and_eq_true] at h
    obtain ⟨⟨h1,h2⟩,_⟩:=h
    obtain ⟨l1,l2⟩:=C.loc x h2
    exact pg_nameD (by rw [C.N]; exact C.nd) (by rw [C.N]; exact at_some h1) l1 l2
   | _=>exact (Bool.false_ne_true h).elim
  | [],h=>simp [mNames] at h
  | _ :: _ :: _,h=>simp [mNames] at h
 | true =>
  cases a with
  | Tuple ts k p =>
   obtain ⟨k1,k2,k3⟩:=mNames_pgs C (show mNames c is ts=true from h)
   exact pg_tupD (C.calm (hcm rfl)) k1 k2 k3
  | _=>exact (Bool.false_ne_true h).elim
end
theorem tgn {tt:Bool} {a:Expr} {xs:List Str} (h:tgNames tt a=some xs):tt=false→xs.length=1:=by
 rintro rfl
 cases a <;> first | (cases h; rfl) | cases h
end DW
end
section
set_option autoImplicit false
set_option maxHeartbeats 2000000
namespace DW
open PySem PySem.Spec PyProof.Rows L2
section
variable {X:Cx}
end
end DW
end
section
set_option autoImplicit false
set_option maxHeartbeats 2000000
namespace DW
open PySem PySem.Spec PyProof.Rows L2
section
variable {K:PySem.W.Frag} {H:Hp} {θ:List Addr} {μ:Mem} {κ κ':Type} [DecidableEq κ] [DecidableEq κ']
theorem dlook_val (f:κ→κ') (inj:∀ a b,f a=f b→a=b):∀ (ks:List κ) (ds:List D) (kvs:List (κ'×V)) (k:κ) (d:D),kvs.map (·.1)=ks.map f→Rps K H θ μ ds (kvs.map (·.2))→dlook ks ds k=some d→∃ v,valV kvs (f k)=some v∧Rp K H θ μ d v
 | [],ds,kvs,k,d,_,_,h=>by simp [dlook] at h
 | k' :: ks,[],kvs,k,d,_,_,h=>by simp [dlook] at h
 | k' :: ks,d' :: ds,[],k,d,h1,_,_=>by simp at h1
 | k' :: ks,d' :: ds,(q,v) :: kvs,k,d,h1,h2,h=>by
  simp only [List.map_cons,List.cons.injEq] at h1
  obtain ⟨rfl,h1⟩:=h1
  rw [List.map_cons] at h2
  obtain ⟨v',r,e,r1,r2⟩:=h2.cons_inv
  cases e
  simp only [dlook] at h
  by_cases c:k'=k
  ·rw [if_pos c] at h; cases h
   subst c
   exact ⟨v,valV_pos rfl,r1⟩
  ·rw [if_neg c] at h
   obtain ⟨w,w1,w2⟩:=dlook_val f inj ks ds kvs k d h1 r2 h
   exact ⟨w,by rw [valV_neg (fun e=>c (inj _ _ e))]; exact w1,w2⟩
end
section
variable {K:PySem.W.Frag} {H:Hp} {θ:List Addr} {μ:Mem}
end
section
variable {X:Cx}
end
end DW
end
section
set_option autoImplicit false
set_option maxHeartbeats 2000000
namespace DW
open PySem PySem.Spec PyProof.Rows L2 PySem.SeqAt
section
variable {X:Cx}
theorem vals_ints:∀ {ns:List Int} {its:List Value},Vals (ns.map V.int) its→IntsAre its ns
 | [],its,h=>by cases h; exact .nil
 | n :: ns,its,h=>by
  cases h with
  | cons r rr=>obtain ⟨t,rfl⟩:=r; exact .cons n t (vals_ints rr)
theorem index_raw {prog:Program} {w:World} {A:Around} {E:Value→Shared→Prop} {s:Shared} {l:Addr} {vs:List Value} {ns:List Int} {k:Int} {t:Tok} {Q:Value→Shared→Prop} (hl:s.heap.IsList l vs.toArray) (hi:IntsAre vs ns)
  (hb:ns.length≤sizeLine) (hk:k∈ns) (h:Q (.int (ns.idxOf k:Nat) s.toks) { s with toks:=s.toks + 1 }) :
  wpAny (model prog w) A (call (.builtin "list.index") [.ref l,.int k t]) Q E s:=by
 obtain ⟨⟨cls,dd,data,sl⟩,ho,hc,n,hd⟩:=id hl
 simp only at hc hd
 subst hc hd
 have hlen:=hi.length
 have hj:ns.idxOf k < ns.length:=List.idxOf_lt_length_iff.mpr hk
 rw [sizeLine_eq] at hb
 refine call_meets PySem.F.slot_list_index ⟨_,ho,rfl⟩ PySem.F.entry_list_index (PySem.F.args_list_index_2 _ _)
  (list_indexAt l vs.toArray n dd sl (.int k t) (isInt k) (ns.idxOf k) (by simpa [hlen] using hj) (by omega) ?_ ?_) ⟨ho,fun y hy=>(eq_isInt k t hi y (by simpa using hy)).at _ _,h⟩
 ·show isInt k vs[ns.idxOf k]=true
  rw [isInt_at k hi _ (by omega) hj]
  simpa using List.getElem_idxOf hj
 ·intro j hjs hlt
  show isInt k vs[j]=false
  rw [isInt_at k hi j (by simpa using hjs) (by omega)]
  exact ne_of_lt_idxOf hlt _
theorem dlook_some {κ κ':Type} [DecidableEq κ] [DecidableEq κ'] {f:κ→κ'} {K:PySem.W.Frag} {H:Hp} {θ:List Addr} {μ:Mem} {k:κ}:∀ {ks:List κ} {ds:List D} {kvs:List (κ'×V)},kvs.map (·.1)=ks.map f→Rps K H θ μ ds (kvs.map (·.2))→k∈ks→dlook ks ds k≠none
 | [],ds,kvs,h1,h2,hm=>by cases hm
 | k' :: ks,ds,[],h1,h2,hm=>by simp at h1
 | k' :: ks,[],kv :: kvs,h1,h2,hm=>by have:=h2.length; simp at this
 | k' :: ks,d :: ds,kv :: kvs,h1,h2,hm=>by
  simp only [List.map_cons,List.cons.injEq] at h1
  rw [List.map_cons] at h2
  obtain ⟨v',r,e,r1,r2⟩:=h2.cons_inv
  cases e
  unfold dlook
  by_cases c:k'=k
  ·rw [if_pos c]; simp
  ·rw [if_neg c]
   rcases List.mem_cons.mp hm with rfl | hm
   ·exact absurd rfl c
   ·exact dlook_some h1.2 r2 hm
theorem wSqm_inv {m:String} {x:V} {y:List V} {d:D} {es:List D} {H:Hp} {θ:List Addr} {μ:Mem} {Qd:QD} (wk:WOk X.K H θ μ) (rd:Rp X.K H θ μ d x) (re:Rps X.K H θ μ es y) (hw:wSqn m d es μ Qd) :
  ∃ a,∃ ns:List Int,∃ k:Int,x = .ref a∧SqL X.K H a (ns.map V.int)∧y=[.int k]∧wSqk m ns k μ Qd:=by
 unfold wSqn at hw
 split at hw
 ·rename_i ns hb
  match es,hw with
  | [.int k],hw =>
   obtain ⟨w',vr,rfl,r1,r2⟩:=re.cons_inv
   cases r2.nil_inv
   cases inv_int r1
   cases q:lstOf μ d with
   | none=>rw [q] at hb; cases hb
   | some ds =>
    rw [q] at hb
    obtain ⟨a,ys,rfl,hx,rs⟩:=lstOf_sq wk rd q
    cases ints_V rs hb
    exact ⟨a,ns,k,rfl,hx,rfl,hw⟩
 ·exact hw.elim
theorem drop_ok {K:PySem.W.Frag} {H:Hp} {θ:List Addr} {μ:Mem} {q:DKey}:∀ {ks:List DKey} {ds:List D} {kvs:List (Key×V)},kvs.map (·.1)=ks.map keyOf→Rps K H θ μ ds (kvs.map (·.2)) →
  (dropK kvs (keyOf q)).map (·.1)=(ddropK ks q).map keyOf∧Rps K H θ μ (ddropV ks ds q) ((dropK kvs (keyOf q)).map (·.2))
 | ks,ds,[],h1,h2=>by
  have e1:ks=[]:=by simpa using h1.symm
  have e2:ds=[]:=by have:=h2.length; simpa using this
  subst e1 e2
  exact ⟨rfl,Reps.nil⟩
 | [],ds,kv :: kvs,h1,h2=>by simp at h1
 | k :: ks,[],kv :: kvs,h1,h2=>by have:=h2.length; simp at this
 | k :: ks,d :: ds,kv :: kvs,h1,h2=>by
  simp only [List.map_cons,List.cons.injEq] at h1
  rw [List.map_cons] at h2
  obtain ⟨v',r,e,r1,r2⟩:=h2.cons_inv
  cases e
  obtain ⟨i1,i2⟩:=drop_ok (q:=q) h1.2 r2
  by_cases c:k=q
  ·have e:dropK (kv :: kvs) (keyOf q)=dropK kvs (keyOf q):=by simp [dropK,h1.1,c]
   rw [e]
   simp only [ddropK,ddropV,if_pos c]
   exact ⟨i1,i2⟩
  ·have ne:¬ kv.1=keyOf q:=fun z=>c (keyOf_inj (h1.1.symm.trans z))
   have e:dropK (kv :: kvs) (keyOf q)=kv :: dropK kvs (keyOf q):=by simp [dropK,ne]
   rw [e]
   simp only [ddropK,ddropV,if_neg c,List.map_cons]
   exact ⟨by rw [i1,h1.1],Reps.cons r1 i2⟩
theorem sqm_get (hu:X.A.units + 1 < cLine):MtR X "dict.get" (lowM X.K (wSqm "get")):=by
 intro pins s σ H x vs v us Q I rx rv h
 obtain ⟨d,e,θ,μ,Qd,wk,rd,re,hw,f⟩:=h
 simp only [wSqm,if_true] at hw
 unfold wDg2 at hw
 split at hw
 ·rename_i n
  obtain ⟨a,rfl,ha⟩:=inv_loc rd
  cases rx
  split at hw
  ·rename_i ks ds hn
   obtain ⟨kvs,e1,e2,e3⟩:=wk.cell n _ a hn ha
   split at hw
   ·rename_i k z
    obtain ⟨y1,r,rfl,r1,r2⟩:=re.cons_inv
    obtain ⟨y2,r,rfl,r3,r4⟩:=r2.cons_inv
    cases r4.nil_inv
    cases rv with
    | cons u1 t1 =>
     cases t1 with
     | cons u2 t2 =>
      cases t2
      split at hw
      ·rename_i q hq
       have ey:=key_rep hq r1
       subst ey
       refine d_get2 hu I (DGet.k e1) u1 u2 fun w' s' I' rw'=>⟨_,H,I',rw',?_⟩
       cases l:dlook ks ds q with
       | some dd =>
        obtain ⟨v,v1,v2⟩:=dlook_val keyOf (fun _ _=>keyOf_inj) ks ds kvs q dd e2 e3 l
        rw [l] at hw
        rw [v1]
        exact f.at wk v2 hw
       | none =>
        rw [l] at hw
        have:valV kvs (keyOf q)=none:=by
         have z:=keys_mem (k:=q) keyOf (fun _ _=>keyOf_inj) e2
         rw [valV_any] at z
         cases hv:valV kvs (keyOf q) with
         | none=>rfl
         | some v =>
          rw [hv] at z
          have hm:=z.mp rfl
          exact absurd l (dlook_some e2 e3 hm)
        rw [this]
        exact f.at wk r3 hw
      ·exact hw.elim
   ·exact hw.elim
  ·exact hw.elim
 ·exact hw.elim
theorem sqm_pop:MtR X "dict.pop" (lowM X.K (wSqm "pop")):=by
 intro pins s σ H x vs v us Q I rx rv h
 obtain ⟨d,e,θ,μ,Qd,wk,rd,re,hw,f⟩:=h
 simp only [wSqm,if_true,String.reduceEq,if_false] at hw
 unfold wDpo at hw
 split at hw
 ·rename_i n
  obtain ⟨a,rfl,ha⟩:=inv_loc rd
  cases rx
  split at hw
  ·rename_i ks ds hn
   obtain ⟨kvs,e1,e2,e3⟩:=wk.cell n _ a hn ha
   split at hw
   ·rename_i k
    obtain ⟨y1,r,rfl,r1,r2⟩:=re.cons_inv
    cases r2.nil_inv
    obtain ⟨u1,rfl,ru⟩:=rv.one
    split at hw
    ·rename_i q hq
     have ey:=key_rep hq r1
     subst ey
     split at hw
     ·rename_i dd l
      obtain ⟨v,v1,v2⟩:=dlook_val keyOf (fun _ _=>keyOf_inj) ks ds kvs q dd e2 e3 l
      refine d_pop I e1 ru v1 (.inl rfl) fun w' s' I' rw'=>⟨v,_,I',rw',?_⟩
      have g:Grow H θ μ (upd H a (.dK (dropK kvs (keyOf q)))) θ (μ.set n (.dic (ddropK ks q) (ddropV ks ds q))):=Grow.write hn ha (by simp) (by simp)
      obtain ⟨p1,p2⟩:=drop_ok (K:=X.K) (q:=q) e2 (g.reps e3)
      exact f dd v _ θ _ (wk.write (c':=.dic (ddropK ks q) (ddropV ks ds q)) hn ha (by simp) (by simp) ⟨_,upd_same,p1,p2⟩) g (g.rep v2) hw
     ·exact hw.elim
    ·exact hw.elim
   ·exact hw.elim
  ·exact hw.elim
 ·exact hw.elim
theorem isDc_ty {K:PySem.W.Frag} {H:Hp} {θ:List Addr} {μ:Mem} {d:D} {v:V} (wk:WOk K H θ μ) (r:Rp K H θ μ d v) (h:isDc μ d=true):tyV K "dict" v H:=by
 cases d with
 | loc n =>
  obtain ⟨a,rfl,ha⟩:=inv_loc r
  simp only [isDc] at h
  split at h
  ·rename_i ks ds hn
   obtain ⟨kvs,e1,_⟩:=wk.cell n _ a hn ha
   exact .inr (.inr (.inl ⟨rfl,.inl ⟨kvs,e1⟩⟩))
  ·cases h
 | _=>cases h
theorem le_sqd {m:String} (hm:m = "get"∨m = "pop") {wo:WE} {ws:WA} {σ:L2.St} {H:Hp} {Q:VK} (h:LE X.K (fun ρ μ Q=>wo ρ μ fun x μ1=>isSq m μ1 x=true∧ws ρ μ1 fun ds μ2=>wSqm m x ds μ2 Q) σ H Q):tBM X.K "dict" (lowM X.K (wSqm m)) (LE X.K wo) (LA X.K ws) σ H Q:=by
 obtain ⟨ρ,θ,μ,Qd,s,h,f⟩:=h
 refine ⟨ρ,θ,μ,_,s,h,fun x v H1 θ1 μ1 w1 g1 r1 h1=>⟨isDc_ty w1 r1 (by have:=h1.1; rw [isSq,if_pos hm] at this; exact this),ρ,θ1,μ1,_,s.grow w1 g1,h1.2,fun ds vs H2 θ2 μ2 w2 g2 r2 h2=>?_⟩⟩
 exact ⟨x,ds,θ2,μ2,Qd,w2,g2.rep r1,r2,h2,f.mono (g1.trans g2)⟩
theorem sqm_index:MtR X "list.index" (lowM X.K (wSqm "index")):=by
 intro pins s σ H x vs v us Q I rx rv h
 obtain ⟨d,e,θ,μ,Qd,wk,rd,re,hw,f⟩:=h
 obtain ⟨a,ns,k,rfl,hx,rfl,h1,h2⟩:=wSqm_inv (m:="index") wk rd re (show wSqn "index" d e μ Qd from hw)
 obtain ⟨u,rfl,ru⟩:=vals1 rv
 cases rx
 obtain ⟨t,rfl⟩:=ru
 obtain ⟨its,vi,pl,hz⟩:=I.list hx
 have hn:ns.length≤sizeLine:=by simpa using hz
 exact index_raw pl.isList (vals_ints vi) hn h1 ⟨.int _,H,I.tok _,⟨_,rfl⟩,f.at wk rp_int h2⟩
theorem sqm_count:MtR X "list.count" (lowM X.K (wSqm "count")):=by
 intro pins s σ H x vs v us Q I rx rv h
 obtain ⟨d,e,θ,μ,Qd,wk,rd,re,hw,f⟩:=h
 obtain ⟨a,ns,k,rfl,hx,rfl,h2⟩:=wSqm_inv (m:="count") wk rd re (show wSqn "count" d e μ Qd from hw)
 obtain ⟨u,rfl,ru⟩:=vals1 rv
 cases rx
 obtain ⟨t,rfl⟩:=ru
 obtain ⟨its,vi,pl,hz⟩:=I.list hx
 exact count_list_ints pl.isList (vals_ints vi) ⟨.int _,H,I.tok _,⟨_,rfl⟩,f.at wk rp_int h2⟩
theorem isLs_ty {K:PySem.W.Frag} {H:Hp} {θ:List Addr} {μ:Mem} {d:D} {v:V} (wk:WOk K H θ μ) (r:Rp K H θ μ d v) (h:isLs μ d=true):tyV K "list" v H:=by
 cases d with
 | lst ds =>
  obtain ⟨a,xs,rfl,hx,_,_⟩:=inv_lst r
  exact .inl ⟨rfl,xs,.of hx⟩
 | loc n =>
  obtain ⟨a,rfl,ha⟩:=inv_loc r
  simp only [isLs] at h
  split at h
  ·rename_i ds hn
   obtain ⟨ys,e,_⟩:=wk.list hn ha
   exact .inl ⟨rfl,ys,.of e⟩
  ·cases h
 | _=>cases h
theorem le_sqm {m:String} (hm:¬ (m = "get"∨m = "pop")) (htx:¬ txM m=true) {wo:WE} {ws:WA} {σ:L2.St} {H:Hp} {Q:VK} (h:LE X.K (fun ρ μ Q=>wo ρ μ fun x μ1=>isSq m μ1 x=true∧ws ρ μ1 fun ds μ2=>wSqm m x ds μ2 Q) σ H Q):tBM X.K "list" (lowM X.K (wSqm m)) (LE X.K wo) (LA X.K ws) σ H Q:=by
 obtain ⟨ρ,θ,μ,Qd,s,h,f⟩:=h
 refine ⟨ρ,θ,μ,_,s,h,fun x v H1 θ1 μ1 w1 g1 r1 h1=>⟨isLs_ty w1 r1 (by have:=h1.1; rw [isSq,if_neg hm,if_neg htx] at this; exact this),ρ,θ1,μ1,_,s.grow w1 g1,h1.2,fun ds vs H2 θ2 μ2 w2 g2 r2 h2=>?_⟩⟩
 exact ⟨x,ds,θ2,μ2,Qd,w2,g2.rep r1,r2,h2,f.mono (g1.trans g2)⟩
end
end DW
end
section
set_option autoImplicit false
set_option maxHeartbeats 2000000
namespace DW
open PySem PySem.Spec PyProof.Rows L2 PySem.SeqAt PySem.Builtin PySem.Builtin.Str
section
variable {X:Cx}
theorem isTx_ty {K:PySem.W.Frag} {H:Hp} {θ:List Addr} {μ:Mem} {d:D} {v:V} (r:Rp K H θ μ d v) (h:isTx d=true):tyV K "str" v H:=by
 cases d with
 | str x=>obtain ⟨rfl,_⟩:=inv_str r; exact rfl
 | _=>cases h
theorem le_sqx {m:String} (hm:¬ (m = "get"∨m = "pop")) (ht:txM m=true) {wo:WE} {ws:WA} {σ:L2.St} {H:Hp} {Q:VK} (h:LE X.K (fun ρ μ Q=>wo ρ μ fun x μ1=>isSq m μ1 x=true∧ws ρ μ1 fun ds μ2=>wSqm m x ds μ2 Q) σ H Q):tBM X.K "str" (lowM X.K (wSqm m)) (LE X.K wo) (LA X.K ws) σ H Q:=by
 obtain ⟨ρ,θ,μ,Qd,s,h,f⟩:=h
 refine ⟨ρ,θ,μ,_,s,h,fun x v H1 θ1 μ1 w1 g1 r1 h1=>⟨isTx_ty r1 (by have:=h1.1; rw [isSq,if_neg hm,if_pos ht] at this; exact this),ρ,θ1,μ1,_,s.grow w1 g1,h1.2,fun ds vs H2 θ2 μ2 w2 g2 r2 h2=>?_⟩⟩
 exact ⟨x,ds,θ2,μ2,Qd,w2,g2.rep r1,r2,h2,f.mono (g1.trans g2)⟩
theorem wTxt_one {m:String} (hm:m≠"join") {x:V} {y:List V} {d:D} {es:List D} {H:Hp} {θ:List Addr} {μ:Mem} {Qd:QD} (rd:Rp X.K H θ μ d x) (re:Rps X.K H θ μ es y) (hw:wTxt m d es μ Qd) :
  ∃ t c,x = .str ⟨List.toArray t⟩∧t.length≤sizeLine∧y=[.str ⟨#[c]⟩]∧wTxt1 m t c μ Qd:=by
 cases d with
 | str t =>
  obtain ⟨rfl,hl⟩:=inv_str rd
  simp only [wTxt] at hw
  split at hw
  ·rename_i c
   obtain ⟨y1,r,rfl,r1,r2⟩:=re.cons_inv
   cases r2.nil_inv
   obtain ⟨rfl,_⟩:=inv_str r1
   exact ⟨t,c,rfl,hl,rfl,hw⟩
  ·split at hw
   ·exact absurd hw.1 hm
   ·exact hw.elim
  ·exact hw.elim
 | _=>exact hw.elim
theorem strExt {a b:Str} (h:a.cps=b.cps):a=b:=by cases a; cases b; exact congrArg _ h
theorem sqm_startswith:MtR X "str.startswith" (lowM X.K (wSqm "startswith")):=by
 intro pins s σ H x vs v us Q I rx rv h
 obtain ⟨d,e,θ,μ,Qd,wk,rd,re,hw,f⟩:=h
 obtain ⟨t,c,rfl,hl,rfl,hq⟩:=wTxt_one (by decide) rd re (show wTxt "startswith" d e μ Qd from hw)
 obtain ⟨u,rfl,ru⟩:=vals1 rv
 obtain ⟨t1,rfl⟩:=rx
 obtain ⟨t2,rfl⟩:=ru
 refine call_gives F.slot_str_startswith (typeIs_str s _ t1) F.entry_str_startswith (F.args_str_startswith_2 _ _) (gives_str_startswith ⟨t.toArray⟩ ⟨#[c]⟩ t1 t2) ?_
 have e:(decide (0 + (⟨#[c]⟩:Str).length≤(⟨t.toArray⟩:Str).length) && subAt ⟨t.toArray⟩ ⟨#[c]⟩ 0)=(t.head? == some c):=by
  have h1:=StrLaws.subAt_one ⟨t.toArray⟩ c 0
  rw [Bool.eq_iff_iff]
  simp only [Bool.and_eq_true,decide_eq_true_eq,beq_iff_eq]
  rw [h1]
  simp [List.head?_eq_getElem?]
 show EP X pins σ Q (.bool _) s
 rw [e]
 exact ⟨.bl _,H,I,rfl,f.at wk rp_bl hq⟩
theorem strs_vals:∀ (ws:List Str) (t:Nat),Vals (ws.map V.str) (strsFrom t ws)
 | [],_=>.nil
 | w :: ws,t=>.cons ⟨t,rfl⟩ (strs_vals ws (t + 1))
theorem reps_strs {K:PySem.W.Frag} {H:Hp} {θ:List Addr} {μ:Mem}:∀ (ws:List Str),(∀ w∈ws,w.length≤sizeLine)→Rps K H θ μ ((ws.map cpl).map .str) (ws.map V.str)
 | [],_=>Reps.nil
 | w :: ws,h=>Reps.cons (by
   have:=rp_str (K:=K) (H:=H) (θ:=θ) (μ:=μ) (x:=cpl w) (by simpa [cpl,Str.length] using h w (by simp))
   simpa [cpl] using this) (reps_strs ws fun w hw=>h w (by simp [hw]))
theorem splitC_le (c : Nat) : ∀ (x : List Nat), ∀ w ∈ splitC c x, w.length ≤ x.length
  | [], w, h => by simp [splitC] at h; simp [h]
  | a :: x, w, h => by
    have ih := splitC_le c x
    unfold splitC at h
    split at h
    · rcases List.mem_cons.mp h with rfl | h
      · simp
      · have := ih w h; simp; omega
    · cases q : splitC c x with
      | nil => rw [q] at h; have : w = [a] := by simpa using h
               subst this; simp
      | cons p ps =>
        rw [q] at h ih
        rcases List.mem_cons.mp h with rfl | h
        · have := ih p (by simp); simp; omega
        · have := ih w (by simp [h]); simp; omega
theorem sqm_split:MtR X "str.split" (lowM X.K (wSqm "split")):=by
 intro pins s σ H x vs v us Q I rx rv h
 obtain ⟨d,e,θ,μ,Qd,wk,rd,re,hw,f⟩:=h
 obtain ⟨t,c,rfl,hl,rfl,⟨hc,hlt⟩,m,hq⟩:=wTxt_one (by decide) rd re (show wTxt "split" d e μ Qd from hw)
 obtain ⟨u,rfl,ru⟩:=vals1 rv
 obtain ⟨t1,rfl⟩:=rx
 obtain ⟨t2,rfl⟩:=ru
 have hlim:lim=sizeLine:=by rw [sizeLine_eq]; rfl
 have self:c ∉ t→∀ s':Shared,s'={ s with heap:=s.heap.push { cls:=.type "list",data:=.seq [Value.str ⟨t.toArray⟩ t1].toArray } }→EP X pins σ Q (.ref s.heap.objs.size) s':=fun hn s' es=>by
  subst es
  rw [splitC_no hn] at hq
  refine ⟨.ref _,_,I.lnew (t':=s.toks) (ys:=[V.str ⟨t.toArray⟩]) (.cons ⟨t1,rfl⟩ .nil) (by rw [sizeLine_eq]; exact Nat.le_of_ble_eq_true rfl),rfl,newL_ok wk f (Reps.cons (rp_str hl) Reps.nil) hq I.fresh⟩
 by_cases h1:(decide ((⟨t.toArray⟩:Str).length < (⟨#[c]⟩:Str).length) || decide (strKind ⟨t.toArray⟩ < strKind ⟨#[c]⟩))=true
 ·refine call_meets F.slot_str_split (typeIs_str s _ t1) F.entry_str_split (F.args_str_split_2 _ _) (meets_str_split_cannot_occur ⟨t.toArray⟩ ⟨#[c]⟩ t1 t2 h1) ?_
  refine self ?_ _ rfl
  have hk:strKind ⟨#[c]⟩=1:=by unfold Builtin.Str.strKind; rw [if_pos (by simp; exact hc)]
  have hk2:1≤strKind ⟨t.toArray⟩:=by unfold Builtin.Str.strKind; split <;> (try split) <;> decide
  have:t.length < 1:=by
   rw [hk] at h1
   simp only [Bool.or_eq_true,decide_eq_true_eq] at h1
   rcases h1 with h1 | h1
   ·simpa [Str.length] using h1
   ·omega
  have:t=[]:=List.length_eq_zero_iff.mp (by omega)
  rw [this]; simp
 ·have h1':(decide ((⟨t.toArray⟩:Str).length < (⟨#[c]⟩:Str).length) || decide (strKind ⟨t.toArray⟩ < strKind ⟨#[c]⟩))=false:=by simpa using h1
  by_cases hf:(occurrences ⟨t.toArray⟩ ⟨#[c]⟩ 0 (⟨t.toArray⟩:Str).length ((⟨t.toArray⟩:Str).length + 1)).isEmpty=true
  ·refine call_meets F.slot_str_split (typeIs_str s _ t1) F.entry_str_split (F.args_str_split_2 _ _) (meets_str_split_not_found ⟨t.toArray⟩ ⟨#[c]⟩ t1 t2 h1' rfl hf) ?_
   refine self ?_ _ rfl
   intro hm
   obtain ⟨i,hi,e⟩:=List.getElem_of_mem hm
   rw [occ_all,List.isEmpty_iff] at hf
   have:i∈plc (⟨t.toArray⟩:Str).cps.toList c (List.range' 0 ((⟨t.toArray⟩:Str).length + 1)):=by
    unfold plc
    rw [List.mem_filter]
    refine ⟨by simp [List.mem_range',Str.length]; omega,?_⟩
    simp [e,hi]
   rw [hf] at this
   cases this
  ·have hf':(occurrences ⟨t.toArray⟩ ⟨#[c]⟩ 0 (⟨t.toArray⟩:Str).length ((⟨t.toArray⟩:Str).length + 1)).isEmpty=false:=by simpa using hf
   have hsp:=split_parts ⟨t.toArray⟩ c
   generalize hP:partsBetween ⟨t.toArray⟩ (occurrences ⟨t.toArray⟩ ⟨#[c]⟩ 0 (⟨t.toArray⟩:Str).length ((⟨t.toArray⟩:Str).length + 1)) (⟨#[c]⟩:Str).length=P at hsp
   have ht:cpl (⟨t.toArray⟩:Str)=t:=by simp [cpl]
   rw [ht] at hsp
   have hPl:P.length≤sizeLine:=by
    have h2:=congrArg List.length hsp
    have h3:=splitC_len c t
    rw [List.length_map] at h2
    omega
   have hPw:∀ w∈P,w.length≤sizeLine:=fun w hw=>by
    have:cpl w∈splitC c t:=by rw [← hsp]; exact List.mem_map.mpr ⟨w,hw,rfl⟩
    have:=splitC_le c t _ this
    have e2:(cpl w).length=w.length:=by simp [cpl,Str.length]
    omega
   refine call_meets F.slot_str_split (typeIs_str s _ t1) F.entry_str_split (F.args_str_split_2 _ _) (meets_str_split_sep ⟨t.toArray⟩ ⟨#[c]⟩ t1 t2 h1' rfl hf' (by simpa [Str.length] using hl) (by rw [hP]; exact hPl)) ?_
   rw [hP]
   rw [← hsp] at hq
   exact ⟨.ref _,_,I.lnew (t':=_) (strs_vals P s.toks) (by simpa using hPl),rfl,newL_ok wk f (reps_strs P hPw) hq I.fresh⟩
theorem sqm_partition:MtR X "str.partition" (lowM X.K (wSqm "partition")):=by
 intro pins s σ H x vs v us Q I rx rv h
 obtain ⟨d,e,θ,μ,Qd,wk,rd,re,hw,f⟩:=h
 obtain ⟨t,c,rfl,hl,rfl,hq⟩:=wTxt_one (by decide) rd re (show wTxt "partition" d e μ Qd from hw)
 obtain ⟨u,rfl,ru⟩:=vals1 rv
 obtain ⟨t1,rfl⟩:=rx
 obtain ⟨t2,rfl⟩:=ru
 refine call_meets F.slot_str_partition (typeIs_str s _ t1) F.entry_str_partition (F.args_str_partition_2 _ _) (meets_str_partition ⟨t.toArray⟩ ⟨#[c]⟩ t1 t2 rfl (by simpa [Str.length] using hl)) ?_
 have mk:∀ (a b z:List Nat) (va vb vz:Value) (tk:Nat),a.length≤sizeLine→b.length≤sizeLine→z.length≤sizeLine→RelV (.str ⟨a.toArray⟩) va→RelV (.str ⟨b.toArray⟩) vb→RelV (.str ⟨z.toArray⟩) vz→Qd (.tup [.str a,.str b,.str z]) μ →
   EP X pins σ Q (.ref s.heap.objs.size) { s with toks:=tk,heap:=s.heap.push { cls:=.type "tuple",data:=.seq [va,vb,vz].toArray } }:=fun a b z va vb vz tk ha hb hz ra rb rz q=>by
  refine ⟨.ref _,_,I.laid (t':=tk) (fun _ _ q=>Heap.get?_push_of_some _ q) (Nat.le_refl _) (show ObjOk X.prog X.w _ _ _ (.tup [V.str ⟨a.toArray⟩,V.str ⟨b.toArray⟩,V.str ⟨z.toArray⟩]) from ⟨by rw [sizeLine_eq]; exact Nat.le_of_ble_eq_true rfl,[va,vb,vz],.cons ra (.cons rb (.cons rz .nil)),IsTupN.new _ _⟩),rfl,?_⟩
  exact new_tup wk f (Reps.cons (rp_str ha) (Reps.cons (rp_str hb) (Reps.cons (rp_str hz) Reps.nil))) q I.fresh
 have one:(1:Nat)≤sizeLine:=by rw [sizeLine_eq]; decide
 unfold wTxt1 at hq
 simp only at hq
 rcases StrLaws.occ_head ⟨t.toArray⟩ ⟨#[c]⟩ 1 (Nat.le_refl _) with ⟨e,hn⟩ | ⟨i,r,e,hi,hn⟩
 ·rw [e]
  have hc:c ∉ t:=fun hm=>by
   obtain ⟨i,hi,e⟩:=List.getElem_of_mem hm
   exact hn i ((StrLaws.subAt_one ⟨t.toArray⟩ c i).mpr (by simp [e,hi]))
  rw [if_neg hc] at hq
  exact mk t [] [] _ _ _ _ hl (by simp) (by simp) ⟨t1,rfl⟩ ⟨_,rfl⟩ ⟨_,rfl⟩ hq
 ·rw [e]
  have hci:=(StrLaws.subAt_one ⟨t.toArray⟩ c i).mp hi
  have hcn:∀ k,k < i→t[k]?≠some c:=fun k hk z=>hn k hk ((StrLaws.subAt_one ⟨t.toArray⟩ c k).mpr (by simpa using z))
  have hci':t[i]? = some c:=by simpa using hci
  obtain ⟨p1,p2⟩:=pre_at t i hci' hcn
  have hc:c∈t:=List.mem_of_getElem? hci'
  rw [if_pos hc,p1,p2] at hq
  have e1:strSub (⟨t.toArray⟩:Str) 0 i=⟨(t.take i).toArray⟩:=by
   apply strExt
   apply Array.toList_inj.mp
   rw [StrLaws.strSub_toList]; simp
  have e2:strSub (⟨t.toArray⟩:Str) (i + (⟨#[c]⟩:Str).length) (⟨t.toArray⟩:Str).length=⟨(t.drop (i + 1)).toArray⟩:=by
   apply strExt
   apply Array.toList_inj.mp
   rw [StrLaws.strSub_toList]
   show (t.drop (i + 1)).take (t.length - (i + 1))=t.drop (i + 1)
   rw [List.take_of_length_le (by simp)]
  show EP X pins σ Q (.ref s.heap.objs.size) { s with toks:=s.toks + 1 + 1,heap:=s.heap.push { cls:=.type "tuple",data:=.seq [.str (strSub ⟨t.toArray⟩ 0 i) s.toks,.str ⟨#[c]⟩ t2,.str (strSub ⟨t.toArray⟩ (i + (⟨#[c]⟩:Str).length) (⟨t.toArray⟩:Str).length) (s.toks + 1)].toArray } }
  rw [e1,e2]
  exact mk (t.take i) [c] (t.drop (i + 1)) _ _ _ _ (by simp; omega) (by simpa using one) (by simp; omega) ⟨_,rfl⟩ ⟨_,rfl⟩ ⟨_,rfl⟩ hq
theorem strs_V {K:PySem.W.Frag} {H:Hp} {θ:List Addr} {μ:Mem}:∀ {ds:List D} {vs:List V} {ws:List (List Nat)},Rps K H θ μ ds vs→strsD ds=some ws→vs=ws.map (fun w=>V.str ⟨w.toArray⟩)∧∀ w∈ws,w.length≤sizeLine
 | [],vs,ws,r,h=>by
  simp [strsD] at h
  subst h
  cases r.nil_inv
  exact ⟨rfl,by simp⟩
 | d :: ds,vs,ws,r,h=>by
  cases d with
  | str x =>
   simp only [strsD] at h
   cases q:strsD ds with
   | none=>rw [q] at h; cases h
   | some ws' =>
    rw [q] at h
    cases h
    obtain ⟨v,vr,rfl,r1,r2⟩:=r.cons_inv
    obtain ⟨rfl,hl⟩:=inv_str r1
    obtain ⟨rfl,h2⟩:=strs_V r2 q
    refine ⟨rfl,fun w hw=>?_⟩
    rcases List.mem_cons.mp hw with e | hw
    ·rw [e]; exact hl
    ·exact h2 w hw
  | _=>cases h
theorem vals_strs:∀ {ws:List (List Nat)} {its:List Value},Vals (ws.map fun w=>V.str ⟨w.toArray⟩) its→∃ l:List (Str×Tok),its=strValues l∧l.map (·.1)=ws.map (fun w=>(⟨w.toArray⟩:Str))
 | [],its,h=>by cases h; exact ⟨[],rfl,rfl⟩
 | w :: ws,its,h=>by
  cases h with
  | cons r rr =>
   obtain ⟨t,rfl⟩:=r
   obtain ⟨l,rfl,e⟩:=vals_strs rr
   exact ⟨(_,t) :: l,rfl,by simp [e]⟩
theorem sqm_join:MtR X "str.join" (lowM X.K (wSqm "join")):=by
 intro pins s σ H x vs v us Q I rx rv h
 obtain ⟨d,e,θ,μ,Qd,wk,rd,re,hw,f⟩:=h
 have hw:wTxt "join" d e μ Qd:=hw
 cases d with
 | str t =>
  obtain ⟨rfl,hl⟩:=inv_str rd
  simp only [wTxt] at hw
  split at hw
  ·exact (show False from hw).elim
  ·rename_i d2 hd2 _
   split at hw
   ·rename_i ws hb
    obtain ⟨-,hsz,hq⟩:=hw
    obtain ⟨y1,r,rfl,r1,r2⟩:=re.cons_inv
    cases r2.nil_inv
    obtain ⟨u,rfl,ru⟩:=vals1 rv
    cases q:lstOf μ d2 with
    | none=>rw [q] at hb; cases hb
    | some ds =>
     rw [q] at hb
     obtain ⟨a,ys,rfl,hx,rs⟩:=lstOf_sq wk r1 q
     obtain ⟨rfl,hws⟩:=strs_V rs hb
     cases ru
     obtain ⟨t1,rfl⟩:=rx
     obtain ⟨its,vi,pl,hz⟩:=I.list hx
     obtain ⟨l,rfl,el⟩:=vals_strs vi
     have hlim:lim=sizeLine:=by rw [sizeLine_eq]; rfl
     have htot:((l.map (·.1)).map (·.length)).sum=(ws.map List.length).sum:=by
      rw [el,List.map_map]
      congr 1
     have hln:l.length=ws.length:=by have:=congrArg List.length el; simpa using this
     have hfit:tooLong ((l.map (·.1)).toArray.foldl (· + ·.length + (⟨t.toArray⟩:Str).length) 0)=false:=by
      rw [StrLaws.joinTotal,htot,List.length_map,hln]
      unfold tooLong
      have:(⟨t.toArray⟩:Str).length=t.length:=by simp [Str.length]
      rw [this]
      exact decide_eq_false (by have:=sizeLine_eq; omega)
     refine call_meets F.slot_str_join (typeIs_str s _ t1) F.entry_str_join (F.args_str_join_2 _ _) (meets_str_join_list ⟨t.toArray⟩ t1 a l hfit) ⟨pl.isList,?_⟩
     have hcp:∀ ws:List (List Nat),(ws.map (fun w=>(⟨w.toArray⟩:Str))).map cpl=ws:=fun ws=>by
      rw [List.map_map]; conv=>rhs; rw [← List.map_id ws]
      exact List.map_congr_left fun w _=>by simp [cpl]
     have hjl:∀ (t:List Nat) (ws:List (List Nat)),(joinC t ws).length≤(ws.map List.length).sum + ws.length * t.length:=by
      intro t ws
      induction ws with
      | nil=>simp [joinC]
      | cons w r ih =>
       cases r with
       | nil=>simp [joinC]
       | cons v r=>simp only [joinC,List.length_append,List.map_cons,List.sum_cons,List.length_cons,Nat.add_mul] at ih ⊢; omega
     have key:glued ⟨t.toArray⟩ (l.map (·.1))=⟨(joinC t ws).toArray⟩:=by
      rw [StrLaws.glued_eq_join,el]
      apply strExt
      apply Array.toList_inj.mp
      have:=join_cps ⟨t.toArray⟩ (ws.map (fun w=>(⟨w.toArray⟩:Str)))
      rw [hcp] at this
      simpa [cpl] using this
     have hlen:(joinC t ws).length≤sizeLine:=Nat.le_trans (hjl t ws) (by omega)
     have fin:EP X pins σ Q (.str ⟨(joinC t ws).toArray⟩ s.toks) { s with toks:=s.toks + 1 }:=⟨.str _,H,I.tok _,⟨_,rfl⟩,f.at wk (rp_str hlen) hq⟩
     match l,key,el with
     | [],key,_=>exact ⟨by rw [key]; simpa [Str.length] using hlen,by rw [key]; exact fin⟩
     | [p],key,el =>
      have:ws=[p.1.cps.toList]:=by
       have:=congrArg (List.map cpl) el
       rw [hcp] at this
       simpa [cpl] using this.symm
      subst this
      have e1:p.1=⟨(joinC t [p.1.cps.toList]).toArray⟩:=by simp [joinC]
      show EP X pins σ Q (.str p.1 p.2) s
      refine ⟨.str ⟨(joinC t [p.1.cps.toList]).toArray⟩,H,I,⟨p.2,by rw [← e1]⟩,f.at wk (rp_str hlen) hq⟩
     | p :: p2 :: r,key,_=>exact ⟨by rw [key]; simpa [Str.length] using hlen,by rw [key]; exact fin⟩
   ·exact hw.elim
  ·exact hw.elim
 | _=>exact hw.elim
end
end DW
end
section
set_option autoImplicit false
set_option maxHeartbeats 2000000
namespace DW
section
open PySem PySem.SeqAt
open AutoSeq1 (wpAny_loadPart')
open MeetsSeq MeetsSeq2 MeetsSeq3 SeqRoads2
end
open PySem PySem.Spec PyProof.Rows L2 PySem.SeqAt
section
variable {X:Cx}
end
end DW
end
section
set_option autoImplicit false
set_option maxHeartbeats 4000000
namespace DW
open PySem PySem.Spec PyProof.Rows L2 PySem.SeqAt
open PySem.AutoSeq1 (wpAny_loadPart')
theorem IsItem.keep {h h':Heap} {v:Value} {x:Itm} (k:∀ b o,h.get? b=some o→h'.get? b=some o) (i:IsItem h v x):IsItem h' v x:=by
 obtain ⟨p,o,t,u,n,e,g,r⟩:=i
 exact ⟨p,o,t,u,n,e,k _ _ g,r⟩
section
variable {prog:Program} {w:World} {A:Around} {E:Value→Shared→Prop}
end
section
variable {X:Cx}
end
end DW
end
section
set_option autoImplicit false
set_option maxHeartbeats 2000000
namespace DW
open PySem PySem.Spec PyProof.Rows L2
section
variable {X:Cx}
end
end DW
end
section
set_option autoImplicit false
namespace DW
open PySem PySem.Spec PyProof.Rows L2
section
variable {X:Cx}
end
end DW
end
section
set_option autoImplicit false
namespace DW
open PySem PySem.Spec PyProof.Rows L2
section
variable {X:Cx}
variable {σ:L2.St} {H:Hp} {pins:List (Addr×Obj)} {l:List Nat} {rest:List (Sem Value)} {Q:List Nat→Prop}
end
end DW
end
section
set_option autoImplicit false
set_option maxHeartbeats 2000000
namespace DW
open PySem PySem.Spec PyProof.Rows L2
theorem ofString_inj {a b:String} (h:Str.ofString a=Str.ofString b):a=b:=by
 rw [Str.ofString_eq_toList,Str.ofString_eq_toList] at h
 have h1:a.toList.map Char.toNat=b.toList.map Char.toNat:=by
  have:=congrArg (fun s:Str=>s.cps.toList) h
  simpa using this
 have inj:∀ (x y:List Char),x.map Char.toNat=y.map Char.toNat→x=y:=by
  intro x
  induction x with
  | nil=>intro y e; cases y with | nil=>rfl | cons _ _=>simp at e
  | cons c x ih =>
   intro y e
   cases y with
   | nil=>simp at e
   | cons d y =>
    simp only [List.map_cons,List.cons.injEq] at e
    have:c=d:=Char.ext (UInt32.toNat_inj.mp e.1)
    rw [this,ih y e.2]
 exact String.ext (inj _ _ h1)
section
variable {K:PySem.W.Frag} {H:Hp} {θ:List Addr} {μ:Mem} {f:String} {d:D} {v:V}
end
section
variable {X:Cx}
theorem anyBase {o:Expr} {m:Str} {env:Env} (h:baseB o=true):attributeBase o m env (eval o env)=eval o env:=by
 cases o with
 | Call f as ks p=>obtain ⟨x,q,a,r,rfl,rfl⟩:=baseB_call h; rfl
 | _=>first | rfl | exact (Bool.false_ne_true h).elim
end
end DW
end
section
set_option autoImplicit false
set_option maxHeartbeats 2000000
namespace DW
open PySem PySem.Spec PyProof.Rows L2
section
variable {X:Cx}
theorem clsvals_u {mg:Str→Option Value}:∀ {ts:List String} {vs:List V} {us:List Value},ClsVals mg ts vs→Vals vs us→us=vs.map clsU
 | [],[],_,_,r=>by cases r; rfl
 | [],_ :: _,_,h,_=>h.elim
 | _ :: _,[],_,h,_=>h.elim
 | t :: ts,v :: vs,_,h,r=>by
  obtain ⟨h1,h2⟩:=h
  cases r with
  | cons r1 r2 =>
   rw [clsvals_u h2 r2]
   rcases h1 with ⟨C,rfl,_⟩ | ⟨rfl,_⟩
   ·cases r1; rfl
   ·cases r1; rfl
theorem clsvals_pa {c:Ctx} (hgl:∀ x,c.glb x=true→Gl X x):∀ {ts:List String} {as:List Expr} {vs:List V},mNs c ts as=true→ClsVals X.mg ts vs→PA X as (fun σ H Q=>Q vs H)
 | [],[],[],_,_=>pa_nil
 | [],[],_ :: _,_,h=>h.elim
 | [],_ :: _,_,h,_=>by simp [mNs] at h
 | _ :: _,[],_,h,_=>by simp [mNs] at h
 | t :: ts,a :: as,[],_,h=>h.elim
 | t :: ts,a :: as,v :: vs,h,hv=>by
  obtain ⟨h1,h2⟩:=hv
  simp only [mNs,Bool.and_eq_true] at h
  obtain ⟨k1,k2⟩:=h
  cases a with
  | Name z p =>
   simp only [Bool.and_eq_true,Bool.not_eq_true',beq_iff_eq] at k1
   obtain ⟨⟨rfl,k3⟩,k4⟩:=k1
   have r1:=clsvals_pa hgl k2 h2
   rcases h1 with ⟨C,rfl,hm⟩ | ⟨rfl,hm,hb,hne⟩
   ·have pe:PE X (.Name (Str.ofString t) p) (tC (.ref C)):=pe_glob (hgl _ k3) hm rfl (oddName_of k4).1
    exact PA.wk (pa_cons pe r1 rfl) fun σ H Q q=>q
   ·have pe:PE X (.Name (Str.ofString t) p) (tC (.ty t)):=pe_bltn (hgl _ k3) hm hb rfl hne (oddName_of k4).1
    exact PA.wk (pa_cons pe r1 rfl) fun σ H Q q=>q
  | _=>simp at k1
theorem call_isx1:CallR X (.builtin "isinstance") (fun xs H Q=>∃ a C b t v,xs=[.ref a,v]∧ClsVals X.mg [t] [v]∧(∃ o u,H a=some (.frz o u)∧o.cls = .ref C)∧ExcCls X.K C∧PySem.W.kitOne X.K (.ref C) (clsU v)=some b∧Q (.bl b) H):=by
 intro pins s σ H xs us Q I r h
 obtain ⟨a,C,b,t,v,rfl,hv,ha,ec,hk,q⟩:=h
 obtain ⟨u1,u2,rfl,rx,ry⟩:=vals2 r
 cases rx
 have e:[u2]=[v].map clsU:=clsvals_u hv (.cons ry .nil)
 obtain rfl:u2=clsU v:=by simpa using e
 obtain ⟨ox,ux,ha,hcx⟩:=ha
 have hx:ExcAt a C s.heap:=⟨ox,(show ObjOk X.prog X.w H s.heap a (.frz ox ux) from I.hok a _ ha).1,hcx⟩
 exact PySem.W.kia_one (kitx_exc ec) I.kIn hx hk (fun z=>nomatch z) fun tk=>⟨.bl b,H,I.tok tk,rfl,q⟩
theorem call_isxT:CallR X (.builtin "isinstance") (fun xs H Q=>∃ a p C b ts vs,xs=[.ref a,.ref p]∧H p=some (.tup vs)∧ClsVals X.mg ts vs∧(∃ o u,H a=some (.frz o u)∧o.cls = .ref C)∧ExcCls X.K C∧PySem.W.kitAny X.K (.ref C) (vs.map clsU)=some b∧Q (.bl b) H):=by
 intro pins s σ H xs us Q I r h
 obtain ⟨a,p,C,b,ts,vs,rfl,hp,hv,ha,ec,hk,q⟩:=h
 obtain ⟨u1,u2,rfl,rx,ry⟩:=vals2 r
 cases rx
 cases ry
 obtain ⟨ox,ux,ha,hcx⟩:=ha
 have hx:ExcAt a C s.heap:=⟨ox,(show ObjOk X.prog X.w H s.heap a (.frz ox ux) from I.hok a _ ha).1,hcx⟩
 obtain ⟨_,its,rv,o,h1,h2,n,h3,_⟩:=(show ObjOk X.prog X.w H s.heap p (.tup vs) from I.hok p _ hp)
 obtain ⟨oc,od,dt,sl⟩:=o
 cases h2
 cases h3
 have e:its=vs.map clsU:=clsvals_u hv rv
 rw [← e] at hk
 exact PySem.W.kia_tup (kitx_exc ec) I.kIn hx h1 hk (fun z=>nomatch z) fun tk=>⟨.bl b,H,I.tok tk,rfl,q⟩
theorem exc_inv {K:PySem.W.Frag} {H:Hp} {θ:List Addr} {μ:Mem} {n:Nat} {x:V} {c:String} {ks:List String} {ds:List D} (wk:WOk K H θ μ) (r:Rp K H θ μ (.loc n) x) (hn:μ[n]? = some (.exc c ks ds)) :
  ∃ a C,x = .ref a∧PySem.W.nsIn K mainGlobals (Str.ofString c)=some (some (.ref C))∧(∃ o u,H a=some (.frz o u)∧o.cls = .ref C):=by
 obtain ⟨a,rfl,h1⟩:=inv_loc r
 obtain ⟨C,o,u,h2,h3,h4,_⟩:=(show CellOk K H θ μ a (.exc c ks ds) from wk.cell n _ a hn h1)
 exact ⟨a,C,rfl,h2,o,u,h3,h4⟩
theorem lookup_mem {α:Type}:∀ {l:List (String×α)} {x:String} {y:α},l.lookup x=some y→(x,y)∈l
 | [],_,_,h=>by simp at h
 | (a,b) :: l,x,y,h=>by
  rw [List.lookup_cons] at h
  split at h
  ·rename_i e
   cases h
   rw [eq_of_beq e]; exact List.mem_cons_self
  ·exact List.mem_cons_of_mem _ (lookup_mem h)
theorem pe_isxD {c:Ctx} {a cl:Expr} {wa:WE} {tt:Bool} {ts:List String} {tab:List (String×Bool)} {y:Str} {p pos:Pos} (hgl:∀ x,c.glb x=true→Gl X x) (R:FnRef X (.isx tt ts tab) spN) (ha:PE X a (LE X.K wa)) (ey:y=Str.ofString "isinstance") (g1:Gl X y) (m1:X.mg y=none)
  (hcl:mCl c tt ts cl=true) (hs:starEach [a,cl] X.env=(false,eval a X.env) :: starEach [cl] X.env) :
  PE X (.Call (.Name y p) [a,cl] [] pos) (LE X.K fun ρ μ Q=>wa ρ μ fun d μ1=>wIsx tab d μ1 Q):=by
 subst ey
 obtain ⟨vs,hv,htab⟩:=(show IsxAt X.K X.mg tt ts tab from R)
 have key:∀ (d:D) (μ:Mem) (Qd:QD),wIsx tab d μ Qd→∃ n cn ks ds b,d = .loc n∧μ[n]? = some (.exc cn ks ds)∧(cn,b)∈tab∧Qd (.bl b) μ:=fun d μ Qd h=>by
  unfold wIsx at h
  split at h
  ·rename_i n
   split at h
   ·rename_i cn ks ds hn
    split at h
    ·rename_i b hb
     exact ⟨n,cn,ks,ds,b,rfl,hn,lookup_mem hb,h⟩
    ·exact h.elim
   ·exact h.elim
  ·exact h.elim
 cases tt with
 | false =>
  have hcl:mNs c ts [cl]=true:=hcl
  have pa:=clsvals_pa hgl hcl hv
  match ts,vs,hv,htab,hcl,pa with
  | [t],[v],hv,htab,hcl,pa =>
   have hpe:PE X cl (tC v):=by
    cases cl with
    | Name z q =>
     simp only [mNs,Bool.and_eq_true,Bool.not_eq_true',beq_iff_eq] at hcl
     obtain ⟨⟨⟨rfl,k3⟩,k4⟩,_⟩:=hcl
     rcases hv.1 with ⟨C,rfl,hm⟩ | ⟨rfl,hm,hb,hne⟩
     ·exact pe_glob (hgl _ k3) hm rfl (oddName_of k4).1
     ·exact pe_bltn (hgl _ k3) hm hb rfl hne (oddName_of k4).1
    | _=>exact (Bool.false_ne_true hcl).elim
   have hst:starEach [cl] X.env=(false,eval cl X.env) :: starEach [] X.env:=by
    cases cl with
    | Name z q=>rfl
    | _=>exact (Bool.false_ne_true hcl).elim
   refine PE.wk (pe_callB (x:=Str.ofString "isinstance") call_isx1 g1 m1 boot_isinst (pa_cons ha (pa_cons hpe pa_nil hst) hs) (by decide +kernel) (by decide +kernel) hs (by rw [hst]; rfl)) fun σ H Q h=>?_
   obtain ⟨ρ,θ,μ,Qd,s,h,f⟩:=h
   refine ⟨ρ,θ,μ,_,s,h,fun d v' H1 θ1 μ1 w1 g1 r1 h1=>?_⟩
   obtain ⟨n,cn,ks,ds,b,rfl,hn,hb,hq⟩:=key d μ1 Qd h1
   obtain ⟨a',C,rfl,k1,k2⟩:=exc_inv w1 r1 hn
   obtain ⟨C',k3,k4,k5⟩:=htab _ hb
   rw [k1] at k3; cases k3
   rw [if_neg Bool.false_ne_true] at k5
   obtain ⟨v2,e2,k6⟩:=k5
   cases e2
   exact ⟨a',C,b,t,v,rfl,hv,k2,k4,k6,f _ _ H1 θ1 μ1 w1 g1 rp_bl hq⟩
  | [],_,_,_,hcl,_=>simp [mNs] at hcl
  | _ :: _ :: _,_,_,_,hcl,_=>simp [mNs] at hcl
  | [_],[],hv,_,_,_=>exact hv.elim
  | [_],_ :: _ :: _,hv,_,_,_=>exact hv.2.elim
 | true =>
  cases cl with
  | Tuple es k tp =>
   have hcl':mNs c ts es=true∧es.length≤16777216:=by
    simp only [mCl,Bool.and_eq_true,decide_eq_true_eq] at hcl
    exact hcl
   have pa:=clsvals_pa hgl hcl'.1 hv
   have hlen:∀ {ts:List String} {es:List Expr} {vs:List V},mNs c ts es=true→ClsVals X.mg ts vs→vs.length=es.length:=by
    intro ts
    induction ts with
    | nil =>
     intro es vs h1 h2
     cases es with
     | nil=>cases vs with | nil=>rfl | cons _ _=>exact h2.elim
     | cons _ _=>simp [mNs] at h1
    | cons t ts ih =>
     intro es vs h1 h2
     cases es with
     | nil=>simp [mNs] at h1
     | cons e es =>
      cases vs with
      | nil=>exact h2.elim
      | cons v vs =>
       simp only [mNs,Bool.and_eq_true] at h1
       simp [ih h1.2 h2.2]
   have hl:=hlen hcl'.1 hv
   refine PE.wk (pe_callB (x:=Str.ofString "isinstance") call_isxT g1 m1 boot_isinst (pa_cons ha (pa_cons (pe_tup pa) pa_nil rfl) hs) (by decide +kernel) (by decide +kernel) hs rfl) fun σ H Q h=>?_
   obtain ⟨ρ,θ,μ,Qd,s,h,f⟩:=h
   refine ⟨ρ,θ,μ,_,s,h,fun d v' H1 θ1 μ1 w1 g1 r1 h1=>?_⟩
   refine ⟨by rw [hl,sizeLine_eq]; exact hcl'.2,fun q hq=>?_⟩
   obtain ⟨n,cn,ks,ds,b,rfl,hn,hb,hq2⟩:=key d μ1 Qd h1
   obtain ⟨a',C,rfl,k1,k2⟩:=exc_inv w1 r1 hn
   obtain ⟨C',k3,k4,k5⟩:=htab _ hb
   rw [k1] at k3; cases k3
   rw [if_pos rfl] at k5
   have e1:=ext_upd (o:=HO.tup vs) hq
   exact ⟨a',q,C,b,ts,vs,rfl,upd_same,hv,(let ⟨o,u,k6,k7⟩:=k2; ⟨o,u,e1 _ _ k6,k7⟩),k4,k5,f _ _ _ θ1 μ1 (w1.ext e1) (g1.trans (Grow.ext e1)) rp_bl hq2⟩
  | _=>exact (Bool.false_ne_true hcl).elim
end
section
variable {X:Cx} {EX:L2.St→XK}
noncomputable def LX (K:PySem.W.Frag) (EX:L2.St→XK) (w:(Rho→QX)→WE):TE:=fun σ H Q=>∃ ρ θ μ Qd Xd,Sim K σ H ρ θ μ∧w Xd ρ μ Qd∧Fin K H θ μ Qd Q∧∀ (H':Hp) (θ':List Addr) (μ':Mem) (c:String) (ks:List String) (ds:List D),WOk K H' θ' μ'→Grow H θ μ H' θ' μ'→Xd ρ c ks ds μ'→XLand K (EX σ) H' θ' μ' c ks ds
theorem pe_callXD {x:Str} {sp:DSpX} {ws:WA} {p pos:Pos} {e:Expr} {es:List Expr} (M:Meets X EX) (R:FnRef X (.fnX x sp) spN) (hg:Gl X x) (ha:PA X (e :: es) (LA X.K ws)) (hdb:(x == ("__debug__" : Str))=false) (hs:starEach (e :: es) X.env=(false,eval e X.env) :: starEach es X.env)
  (hpl:(backTo pos (starEach es X.env)).any (·.1)=false):PE X (.Call (.Name x p) (e :: es) [] pos) (LX X.K EX fun Xd ρ μ Q=>ws ρ μ fun ds μ1=>sp ds μ1 Q (Xd ρ)):=by
 obtain ⟨fa,fd,ps,k,hm,hk,hb,F,hr⟩:=R
 refine PE.wk (pe_callX F hr hg hm hk hb M ha hdb hs hpl) fun σ H Q h=>?_
 obtain ⟨ρ,θ,μ,Qd,Xd,s,h,f,fx⟩:=h
 exact ⟨ρ,θ,μ,_,s,h,fun ds vs H1 θ1 μ1 w1 g1 r1 h1=>⟨ds,θ1,μ1,Qd,Xd ρ,w1,r1,h1,f.mono g1,fun H' θ' μ' c ks es w' g' z=>fx H' θ' μ' c ks es w' (g1.trans g') z⟩⟩
theorem pe_call0XD {x:Str} {sp:DSpX} {p pos:Pos} (M:Meets X EX) (R:FnRef X (.fnX x sp) spN) (hg:Gl X x) (hdb:(x == ("__debug__" : Str))=false):PE X (.Call (.Name x p) [] [] pos) (LX X.K EX fun Xd ρ μ Q=>sp [] μ Q (Xd ρ)):=by
 obtain ⟨fa,fd,ps,k,hm,hk,hb,F,hr⟩:=R
 refine PE.wk (pe_callX0 F hr hg hm hk hb M hdb) fun σ H Q h=>?_
 obtain ⟨ρ,θ,μ,Qd,Xd,s,h,f,fx⟩:=h
 exact ⟨[],θ,μ,Qd,Xd ρ,s.wok,Reps.nil,h,f,fx⟩
end
end DW
end
section
set_option autoImplicit false
set_option maxHeartbeats 2000000
namespace DW
open PySem PySem.Spec PyProof.Rows L2
section
variable {X:Cx} {EX:L2.St→XK}
end
end DW
end
section
set_option autoImplicit false
set_option maxHeartbeats 2000000
namespace DW
open PySem PySem.Spec PyProof.Rows L2
variable {X:Cx}
theorem lk_some {K:PySem.W.Frag} {H:Hp} {θ:List Addr} {μ:Mem} {f:String}:∀ {ks:List String} {ds:List D} {fs:List (Str×V)} {d:D},fs.map (·.1)=ks.map (fun k=>Str.ofString k)→Rps K H θ μ ds (fs.map (·.2))→lkS f ks ds=some d →
  ∃ v,fs.lookup (Str.ofString f)=some v∧Rp K H θ μ d v
 | [],ds,fs,d,_,_,h=>by cases ds <;> cases h
 | k :: ks,[],fs,d,_,_,h=>by cases h
 | k :: ks,d0 :: ds,[],d,e,_,h=>by simp at e
 | k :: ks,d0 :: ds,(g,v) :: fs,d,e,r,h=>by
  simp only [List.map_cons,List.cons.injEq] at e
  obtain ⟨rfl,e2⟩:=e
  obtain ⟨v',r',q,h1,h2⟩:=r.cons_inv
  simp only [List.map_cons,List.cons.injEq] at q
  obtain ⟨rfl,rfl⟩:=q
  unfold lkS at h
  by_cases z:k=f
  ·subst z
   rw [if_pos rfl] at h
   cases h
   exact ⟨v,by simp [List.lookup],h1⟩
  ·rw [if_neg z] at h
   obtain ⟨w,k1,k2⟩:=lk_some e2 h2 h
   refine ⟨w,?_,k2⟩
   have ne:(Str.ofString f == Str.ofString k)=false:=by
    rw [beq_eq_false_iff_ne]
    intro y
    exact z (ofString_inj y).symm
   simp only [List.lookup,ne]
   exact k1
noncomputable def tEfl (K:PySem.W.Frag) (ta:TE) (f:Str):TE:=fun σ H Q=>ta σ H fun x H1=>∃ a C dx fs v o u,x = .ref a∧H1 a=some (.frz o u)∧o.cls = .ref C∧PySem.W.notCls o=true∧o.dict=some dx∧H1 dx=some (DcO dx fs)∧ExcCls K C∧NoAttr K C f∧PySem.W.hasDictIn K C=true∧fs.lookup f=some v∧Q v H1
theorem pe_efl {e:Expr} {f:Str} {pos:Pos} {ta:TE} (he:PE X e ta) (hb:attributeBase e f X.env (eval e X.env)=eval e X.env):PE X (.Attribute e f pos) (tEfl X.K ta f):=by
 intro pins s σ H Q I h
 refine attr_of hb (thn (he pins s σ H _ I h) fun u s1 ⟨x,H1,I1,rx,a,C,dx,fs,v,o,w,ex,ea,oc,on,od,ed,c,n,hd,l,q⟩=>?_)
 subst ex
 obtain rfl:u=Value.ref a:=rx
 exact geterr I1 ea oc on od ed c n hd l fun u' s2 I2 ru=>⟨v,H1,I2,ru,q⟩
theorem pe_eflD {f:String} {tab:List String} {o:Expr} {wo:WE} {pos:Pos} (R:FnRef X (.efl f tab) spN) (he:PE X o (LE X.K wo)) (hb:baseB o=true):PE X (.Attribute o (Str.ofString f) pos) (LE X.K fun ρ μ Q=>wo ρ μ fun x μ1=>wEfl f tab x μ1 Q):=by
 refine PE.wk (pe_efl he (anyBase hb)) fun σ H Q h=>?_
 obtain ⟨ρ,θ,μ,Qd,s,h,fi⟩:=h
 refine ⟨ρ,θ,μ,_,s,h,fun x v H1 θ1 μ1 w1 g1 r1 h1=>?_⟩
 unfold wEfl at h1
 split at h1
 ·rename_i n
  split at h1
  ·rename_i cn ks ds hn
   obtain ⟨t1,h1⟩:=h1
   split at h1
   ·rename_i d hd
    obtain ⟨a,rfl,ha⟩:=inv_loc r1
    obtain ⟨C,oe,u,k1,k2,k3,k4,k5⟩:=(show CellOk X.K H1 θ1 μ1 a (.exc cn ks ds) from w1.cell n _ a hn ha)
    obtain ⟨C',m1,m2,m3,m4⟩:=R cn (by simpa using t1)
    rw [k1] at m1; cases m1
    rcases k5 with ⟨z,_⟩ | ⟨z0,dx,fs,z1,z2,z3,z4,z5⟩
    ·subst z; cases hd
    ·obtain ⟨v',y1,y2⟩:=lk_some z4 z5 hd
     exact ⟨a,C,dx,fs,v',oe,u,rfl,k2,k3,k4,z1,z2,m2,m3,m4,y1,(fi.mono g1).at w1 y2 h1⟩
   ·exact h1.elim
  ·exact h1.elim
 ·exact h1.elim
theorem ps_raisID {E:XK} {c:String} {ks:List String} {ws:WA} {np cpos pos:Pos} {args:List Expr} (L:Leaves X E) (hc:X.calm=true) (hg:Gl X (Str.ofString c)) (R:FnRef X (.rsi c ks) spN) (ha:PA X args (LA X.K ws))
  (hpl:(backTo cpos (starEach args X.env)).any (·.1)=false) (hd:(Str.ofString c == ("__debug__" : Str))=false) (hst:args=[]∨∃ e es,args=e :: es∧starEach (e :: es) X.env=(false,eval e X.env) :: starEach es X.env) :
  PS X (.Raise (some (.Call (.Name (Str.ofString c) np) args [] cpos)) none pos) (LS X.K (fun _=>E) fun Z ρ μ=>ws ρ μ fun ds μ1=>ds.length=ks.length∧Z.xc ρ c ks ds μ1):=by
 obtain ⟨⟨C,fa,fd,sf,h1,h2,h3,h4,h5,h6,h7,h8,h9,h10⟩,hr⟩:=R
 refine PS.wk (ps_raisI PySem.F.excBase_ValueError L hc hg h2 h3 h4 h5 h6 h10 hr h7 ha hpl hd hst) fun D σ H h=>?_
 obtain ⟨ρ,θ,μ,Z,s,h,f⟩:=h
 refine ⟨ρ,θ,μ,_,s,h,fun ds vs H1 θ1 μ1 w1 g1 r1 q=>?_⟩
 have el:vs.length=ks.length:=by rw [← r1.length]; exact q.1
 refine ⟨by rw [el,List.length_map],by rw [el,sizeLine_eq]; omega,fun dx hdx=>?_⟩
 have e:=ext_upd (o:=DcO dx ((ks.map fun k=>Str.ofString k).zip vs)) hdx
 have g2:Grow H1 θ1 μ1 (upd H1 dx (DcO dx ((ks.map fun k=>Str.ofString k).zip vs))) θ1 μ1:=Grow.ext e
 obtain ⟨C',k1,k2⟩:=f.xc σ _ ρ θ1 μ1 c ks ds (s.grow (w1.ext e) (g1.trans g2)) (g1.trans g2) q.2
 rw [h1] at k1; cases k1
 refine k2 (some dx) (.inr ⟨h8,dx,_,rfl,upd_same,w1.notLive hdx,?_,?_⟩)
 ·exact List.map_fst_zip (by rw [List.length_map,el]; exact Nat.le_refl _)
 ·rw [show ((ks.map fun k=>Str.ofString k).zip vs).map (·.2)=vs from List.map_snd_zip (by rw [List.length_map,el]; exact Nat.le_refl _)]
  exact g2.reps r1
end DW
end
section
set_option autoImplicit false
set_option maxHeartbeats 2000000
namespace DW
open PySem PySem.Spec PyProof.Rows L2
section
variable {prog:Program} {w:World} {A:Around} {E:Value→Shared→Prop} {s:Shared}
end
section
variable {X:Cx}
end
end DW
end
section
set_option autoImplicit false
set_option maxHeartbeats 4000000
namespace DW
open PySem PySem.Spec PyProof.Rows L2
section
variable {X:Cx}
theorem isCell_ty {K:PySem.W.Frag} {H:Hp} {θ:List Addr} {μ:Mem} {d:D} {v:V} (wk:WOk K H θ μ) (r:Rp K H θ μ d v) (h:isCell μ d=true):tyV K "list" v H:=by
 cases d with
 | loc n =>
  obtain ⟨a,rfl,ha⟩:=inv_loc r
  simp only [isCell] at h
  split at h
  ·rename_i ds hn
   obtain ⟨xs,hx,_⟩:=wk.list hn ha
   exact .inl ⟨rfl,xs,.of hx⟩
  ·cases h
 | _=>cases h
theorem le_meth {m:String} {wo:WE} {ws:WA} {σ:L2.St} {H:Hp} {Q:VK} (h:LE X.K (fun ρ μ Q=>wo ρ μ fun x μ1=>isCell μ1 x=true∧ws ρ μ1 fun ds μ2=>wMeth m x ds μ2 Q) σ H Q):tBM X.K "list" (lowM X.K (wMeth m)) (LE X.K wo) (LA X.K ws) σ H Q:=by
 obtain ⟨ρ,θ,μ,Qd,s,h,f⟩:=h
 refine ⟨ρ,θ,μ,_,s,h,fun x v H1 θ1 μ1 w1 g1 r1 h1=>⟨isCell_ty w1 r1 h1.1,ρ,θ1,μ1,_,s.grow w1 g1,h1.2,fun ds vs H2 θ2 μ2 w2 g2 r2 h2=>?_⟩⟩
 exact ⟨x,ds,θ2,μ2,Qd,w2,g2.rep r1,r2,h2,f.mono (g1.trans g2)⟩
theorem base_of {o:Expr} {m:Str} {env:Env} (h:baseB o=true) (hm:m=Str.ofString "append"∨m=Str.ofString "insert"):attributeBase o m env (eval o env)=eval o env:=by
 cases o with
 | Call f as ks p=>obtain ⟨x,q,a,r,rfl,rfl⟩:=baseB_call h; rfl
 | _=>first | rfl | exact (Bool.false_ne_true h).elim
theorem few_of {c:Ctx} {cpos:Pos} {as:Es} {e:Expr} {es:List Expr} (h:mEs c as (e :: es)=true) (h30:(e :: es).length < 30):((backTo cpos (starEach (e :: es) X.env)).all (fun x=>!x.1) && (backToKw cpos (keywordEach [] X.env)).all (fun x=>x.1.isSome)
   && decide ((e :: es).length + ([]:List Keyword).length + (if ([]:List Keyword).isEmpty then 0 else 1) < 30))=true:=by
 have h1:(backTo cpos (starEach (e :: es) X.env)).all (fun x=>!x.1)=true:=by
  have:=any_star (pos:=cpos) (env:=X.env) h
  rw [List.all_eq_not_any_not]
  simpa using this
 have h2:(backToKw cpos (keywordEach [] X.env)).all (fun x=>x.1.isSome)=true:=rfl
 rw [h1,h2]
 simpa using h30
noncomputable abbrev WO:=Rho→Mem→(Option Int→Mem→Prop)→Prop
noncomputable def LO (K:PySem.W.Frag) (w:WO):TO:=fun σ H Q=>∃ ρ θ μ Qd,Sim K σ H ρ θ μ∧w ρ μ Qd∧∀ (o:Option Int) (H':Hp) (θ':List Addr) (μ':Mem),WOk K H' θ' μ'→Grow H θ μ H' θ' μ'→Qd o μ'→Q o H'
theorem po_noneD:PO X none (LO X.K fun _ μ Q=>Q none μ):=fun pins s σ H Q I h=>by
 obtain ⟨ρ,θ,μ,Qd,sm,h,f⟩:=h
 exact po_none pins s σ H Q I (f none H θ μ sm.wok Grow.refl h)
theorem po_someD {a:Expr} {w:WE} (ha:PE X a (LE X.K w)):PO X (some a) (LO X.K fun ρ μ Q=>w ρ μ fun d μ1=>wInt d μ1 fun i μ2=>Q (some i) μ2):=fun pins s σ H Q I h=>by
 obtain ⟨ρ,θ,μ,Qd,sm,h,f⟩:=h
 refine po_some ha pins s σ H Q I ⟨ρ,θ,μ,_,sm,h,fun d v H1 θ1 μ1 w1 g1 r1 h1=>?_⟩
 cases d with
 | int i=>exact ⟨i,inv_int r1,f (some i) H1 θ1 μ1 w1 g1 h1⟩
 | _=>exact h1.elim
theorem le_slc {m:Bool} {wa:WE} {wl wh:WO} {σ:L2.St} {H:Hp} {Q:VK} (h:LE X.K (fun ρ μ Q=>wa ρ μ fun x μ1=>wl ρ μ1 fun l μ2=>wh ρ μ2 fun h μ3=>wSlc m x l h μ3 Q) σ H Q) :
  tSl (lowSl X.K m) (LE X.K wa) (LO X.K wl) (LO X.K wh) σ H Q:=by
 obtain ⟨ρ,θ,μ,Qd,s,h,f⟩:=h
 refine ⟨ρ,θ,μ,_,s,h,fun x v H1 θ1 μ1 w1 g1 r1 h1=>⟨ρ,θ1,μ1,_,s.grow w1 g1,h1,fun l H2 θ2 μ2 w2 g2 h2=>⟨ρ,θ2,μ2,_,s.grow w2 (g1.trans g2),h2,fun o H3 θ3 μ3 w3 g3 h3=>?_⟩⟩⟩
 exact ⟨x,θ3,μ3,Qd,w3,(g2.trans g3).rep r1,h3,f.mono ((g1.trans g2).trans g3)⟩
noncomputable def isTup:Expr→Bool
 | .Tuple ..=>true
 | _=>false
theorem zipTg_of {c:Ctx} {is:List Nat} {tt:Bool} {t:Expr} {it:It} (h:mTg c is tt t=true) (hz:zipTg tt it=true):zipTg (isTup t) it=true:=by
 cases it with
 | zip l r =>
  simp only [zipTg] at hz ⊢
  subst hz
  cases t <;> first | rfl | exact (Bool.false_ne_true h).elim
 | enum l =>
  simp only [zipTg] at hz ⊢
  subst hz
  cases t <;> first | rfl | exact (Bool.false_ne_true h).elim
 | _=>rfl
theorem mI_set {c:Ctx} {it:It} {a:Expr} (h:mI c it a=true):notSet a=true:=by
 cases it with
 | seq e=>simp only [mI,Bool.and_eq_true] at h; exact h.2
 | _ =>
  obtain ⟨t,e,_⟩:=opt_inv h
  obtain ⟨p,q,rfl⟩:=vCall_inv e
  rfl
theorem lt_chain {p q:CmpOp} {wa wb wc:WE} {σ:L2.St} {H:Hp} {Q:Bool→Hp→Prop}
  (h:LT X.K (fun ρ μ Q=>wa ρ μ fun x μ1=>wb ρ μ1 fun y μ2=>wCmp p x y μ2 fun r μ3=>wBl r μ3 fun t μ3=>if t=true then wc ρ μ3 fun z μ4=>wCmp q y z μ4 fun r μ5=>wBl r μ5 Q else Q false μ3) σ H Q) :
  tTest (tChain (low2 X.K (wCmp p)) (low2 X.K (wCmp q)) (LE X.K wa) (LE X.K wb) (LE X.K wc)) σ H Q:=by
 obtain ⟨ρ,θ,μ,Qd,s,h,f⟩:=h
 refine le_chain (Q:=fun x H'=>∃ k,x = .bl k∧Q k H') ⟨ρ,θ,μ,fun r μ'=>wBl r μ' Qd,s,h,fun r v H1 θ1 μ1 w1 g1 r1 h1=>?_⟩
 cases r with
 | bl b=>exact ⟨b,inv_bl r1,f b H1 θ1 μ1 w1 g1 h1⟩
 | _=>exact h1.elim
theorem pw_no {a:Expr} {t:TT} (h:∀ op vs pos,a≠.BoolOp op vs pos):∀ op vs pos,a = .BoolOp op vs pos→PW X a t:=fun op vs pos e=>absurd e (h op vs pos)
end
theorem args_head {c:Ctx} {as:Es} {e:Expr} {es:List Expr} (h:mEs c as (e :: es)=true):notStar e=true∧∃ es',mEs c es' es=true:=by
 cases as with
 | nil=>exact (Bool.false_ne_true h).elim
 | cons e' es' =>
  simp only [mEs,Bool.and_eq_true] at h
  exact ⟨h.1.2,es',h.2⟩
theorem pe_cstD {X:Cx} {k:Const} {j:Nat} {pos:Pos} {d:D} (h:mC k d=true):PE X (.Constant k j pos) (LE X.K (wE (.cst d))):=by
 cases k <;> cases d <;> simp only [mC,Bool.false_eq_true,Bool.and_eq_true,beq_iff_eq] at h
 ·exact PE.wk pe_non fun σ H Q q=>le_const (fun _ _ _=>rp_non) q
 ·subst h; exact PE.wk pe_bl fun σ H Q q=>le_const (fun _ _ _=>rp_bl) q
 ·subst h; exact PE.wk pe_int fun σ H Q q=>le_const (fun _ _ _=>rp_int) q
 ·rename_i x y
  obtain ⟨h1,h2⟩:=h
  have h1:=of_decide_eq_true h1
  have h2:=of_decide_eq_true h2
  subst h1
  have e:x=⟨x.cps.toList.toArray⟩:=by simp
  refine PE.wk pe_str fun σ H Q q=>le_const (fun _ _ _=>?_) q
  rw [e]
  exact rp_str (by rw [sizeLine_eq]; exact h2)
theorem cmOr {c:Ctx} {it:It} {tt:Bool} (h:(c.calm || (rngIt it && !tt))=true):c.calm=true∨rngIt it=true:=by
 rcases Bool.or_eq_true_iff.mp h with h | h
 ·exact .inl h
 ·exact .inr (Bool.and_eq_true_iff.mp h).1
theorem cmTt {c:Ctx} {it:It} {tt:Bool} (h:(c.calm || (rngIt it && !tt))=true):tt=true→c.calm=true:=fun z=>by
 subst z
 simpa using h
mutual
theorem sE:∀ (e:E) {X:Cx} {c:Ctx} {a:Expr},CtxOk X c→mE c e a=true→okE (FnRef X) (GblRef X) e→Snd X e a
 | .var i,X,c,a,C,h,_=>by
  have h:(opt (vName a) fun x=>c.at_ i x && c.vis x && !oddName x)=true:=h
  obtain ⟨x,e,hh⟩:=opt_inv h
  obtain ⟨pos,rfl⟩:=vName_inv e
  have h:=hh
  simp only [Bool.and_eq_true,Bool.not_eq_true'] at h
  obtain ⟨⟨h1,h2⟩,h3⟩:=h
  obtain ⟨o1,o2⟩:=oddName_of h3
  have pe:PE X (.Name x pos) (LE X.K (wE (.var i))):=PE.wk (pe_varD (by rw [C.N]; exact at_some h1) (C.vis x h2) o1 o2) fun σ H Q q=>q
  refine ⟨pe,PT.wk (pt_truD pe fun _=>rfl) fun σ H Q q=>?_,pw_no (fun _ _ _ z=>by cases z)⟩
  obtain ⟨ρ,θ,μ,Qd,s,q,f⟩:=q
  refine ⟨ρ,θ,μ,Qd,s,?_,f⟩
  simp only [wT] at q
  simp only [wE]
  split at q
  ·exact q
  ·exact q.elim
 | .cst d,X,c,a,C,h,_=>by
  have h:(opt (vConst a) fun k=>mC k d)=true:=h
  obtain ⟨k,e,hh⟩:=opt_inv h
  obtain ⟨j,pos,rfl⟩:=vConst_inv e
  have h:=hh
  have pe:=pe_cstD (X:=X) (j:=j) (pos:=pos) h
  refine ⟨pe,PT.wk (pt_truD pe fun _=>rfl) fun σ H Q q=>?_,pw_no (fun _ _ _ z=>by cases z)⟩
  obtain ⟨ρ,θ,μ,Qd,s,q,f⟩:=q
  exact ⟨ρ,θ,μ,Qd,s,q,f⟩
 | .gbl y d,X,c,a,C,h,ok=>by
  have h:(opt (vName a) fun x=>x == y && c.glb x && !oddName x)=true:=h
  obtain ⟨x,e,hh⟩:=opt_inv h
  obtain ⟨pos,rfl⟩:=vName_inv e
  have h:=hh
  simp only [Bool.and_eq_true,Bool.not_eq_true',beq_iff_eq] at h
  obtain ⟨⟨rfl,h2⟩,h3⟩:=h
  obtain ⟨u,v,m,r,rp⟩:=(show GblRef X x d from ok)
  exact ⟨PE.wk (pe_glob (C.glb x h2) m r (oddName_of h3).1) fun σ H Q q=>le_const rp q,pt_never,pw_no (fun _ _ _ z=>by cases z)⟩
 | .bin op l r,X,c,a,C,h,ok=>by
  have h:(opt (vBin a) fun t=>op == t.2.1 && mE c l t.1 && mE c r t.2.2)=true:=h
  obtain ⟨⟨l',op',r'⟩,e,hh⟩:=opt_inv h
  obtain ⟨pos,rfl⟩:=vBin_inv e
  have h:=hh
  simp only [Bool.and_eq_true,beq_iff_eq] at h
  obtain ⟨⟨rfl,h1⟩,h2⟩:=h
  exact ⟨PE.wk (pe_op (bin_ok op) (sE l C h1 ok.1).pe (sE r C h2 ok.2).pe) fun σ H Q q=>le_bin q,pt_never,pw_no (fun _ _ _ z=>by cases z)⟩
 | .neg l,X,c,a,C,h,ok=>by
  have h:(opt (vNeg a) fun t=>mE c l t)=true:=h
  obtain ⟨l',e,hh⟩:=opt_inv h
  obtain ⟨pos,rfl⟩:=vNeg_inv e
  have h:=hh
  have S1:=sE l C h ok
  refine ⟨PE.wk (pe_un un_neg S1.pe) fun σ H Q q=>?_,pt_never,pw_no (fun _ _ _ z=>by cases z)⟩
  obtain ⟨ρ,θ,μ,Qd,s,q,f⟩:=q
  refine ⟨ρ,θ,μ,_,s,q,fun x v H1 θ1 μ1 w1 g1 r1 h1=>?_⟩
  cases x with
  | int i=>exact ⟨i,inv_int r1,(f.mono g1).at w1 rp_int h1⟩
  | _=>exact h1.elim
 | .not l,X,c,a,C,h,ok=>by
  have h:(opt (vNot a) fun t=>mE c l t)=true:=h
  obtain ⟨l',e,hh⟩:=opt_inv h
  obtain ⟨pos,rfl⟩:=vNot_inv e
  have h:=hh
  have S1:=sE l C h ok
  refine ⟨PE.wk (pe_not S1.pe) fun σ H Q q=>?_,PT.wk (pt_not S1.pt) fun σ H Q q=>?_,pw_no (fun _ _ _ z=>by cases z)⟩
  ·obtain ⟨ρ,θ,μ,Qd,s,q,f⟩:=q
   refine ⟨ρ,θ,μ,_,s,q,fun x v H1 θ1 μ1 w1 g1 r1 h1=>?_⟩
   cases x with
   | bl b=>exact ⟨b,inv_bl r1,(f.mono g1).at w1 rp_bl h1⟩
   | _=>exact h1.elim
  ·obtain ⟨ρ,θ,μ,Qd,s,q,f⟩:=q
   exact ⟨ρ,θ,μ,_,s,q,fun b H1 θ1 μ1 w1 g1 h1=>f (!b) H1 θ1 μ1 w1 g1 h1⟩
 | .cmp op l r,X,c,a,C,h,ok=>by
  have h:(opt (vCmp a) fun t=>op == t.2.1 && mE c l t.1 && mE c r t.2.2 && notSet t.2.2)=true:=h
  obtain ⟨⟨l',op',r'⟩,e,hh⟩:=opt_inv h
  obtain ⟨pos,rfl⟩:=vCmp_inv e
  have h:=hh
  simp only [Bool.and_eq_true,beq_iff_eq] at h
  obtain ⟨⟨⟨rfl,h1⟩,h2⟩,h3⟩:=h
  have S1:=sE l C h1 ok.1
  have S2:=sE r C h2 ok.2
  obtain ⟨k,hr⟩:=C.room
  exact ⟨PE.wk (pe_cmpR (cmp_ok hr op) S1.pe S2.pe (set_of h3)) fun σ H Q q=>le_bin q,PT.wk (pt_cmpR (cmp_ok hr op) S1.pe S2.pe (set_of h3)) fun σ H Q q=>lt_bl (w:=wE (.cmp op l r)) (fun _ _ _ z=>le_bin z) q,pw_no (fun _ _ _ z=>by cases z)⟩
 | .chain p q l m r,X,c,a,C,h,ok=>by
  have h:(opt (vCmp2 a) fun t=>p == t.2.1 && q == t.2.2.1 && mE c l t.1 && mE c m t.2.2.2.1 && mE c r t.2.2.2.2 && notSet t.2.2.2.2 && notSet t.2.2.2.1)=true:=h
  obtain ⟨⟨l',p',q',m',r'⟩,e,hh⟩:=opt_inv h
  obtain ⟨pos,rfl⟩:=vCmp2_inv e
  have h:=hh
  simp only [Bool.and_eq_true,beq_iff_eq] at h
  obtain ⟨⟨⟨⟨⟨⟨rfl,rfl⟩,h1⟩,h2⟩,h3⟩,h4⟩,h5⟩:=h
  have S1:=sE l C h1 ok.1
  have S2:=sE m C h2 ok.2.1
  have S3:=sE r C h3 ok.2.2
  obtain ⟨k,hr⟩:=C.room
  have hm:lastMarks [p,q] [m',r']=false:=by
   show behindInMarks q r'=false
   exact set_of h4
  exact ⟨PE.wk (pe_chain (cmp_ok hr p) (cmp_ok hr q) S1.pe S2.pe S3.pe hm) fun σ H Q z=>le_chain z,PT.wk (pt_chain (cmp_ok hr p) (cmp_ok hr q) S1.pe S2.pe S3.pe hm) fun σ H Q z=>lt_chain z,pw_no (fun _ _ _ z=>by cases z)⟩
 | .and x y,X,c,a,C,h,ok=>by
  have h:(opt (vAnd a) fun t=>mE c x t.1 && mE c y t.2)=true:=h
  obtain ⟨⟨v,y'⟩,e,h⟩:=opt_inv h
  simp only [Bool.and_eq_true] at h
  have S1:=sE x C h.1 ok.1
  have S2:=sE y C h.2 ok.2
  rcases vAnd_inv e with ⟨pos,rfl⟩ | ⟨w,z,rest,pos,rfl,rfl⟩
  ·have pw:PW X (.BoolOp .And [v,y'] pos) (LT X.K (wT (.and x y))):=PW.wk (pw_and S1.pt (pw_and1 S2.pt)) fun σ H Q q=>lt_and q
   exact ⟨PE.wk (pe_and S1.pe (pe_one S2.pe)) fun σ H Q q=>le_and q,pw.pt,fun _ _ _ _=>pw⟩
  ·have pw:PW X (.BoolOp .And (v :: w :: z :: rest) pos) (LT X.K (wT (.and x y))):=PW.wk (pw_and S1.pt (S2.pw _ _ _ rfl)) fun σ H Q q=>lt_and q
   exact ⟨PE.wk (pe_and S1.pe S2.pe) fun σ H Q q=>le_and q,pw.pt,fun _ _ _ _=>pw⟩
 | .or x y,X,c,a,C,h,ok=>by
  have h:(opt (vOr a) fun t=>mE c x t.1 && mE c y t.2)=true:=h
  obtain ⟨⟨v,y'⟩,e,h⟩:=opt_inv h
  simp only [Bool.and_eq_true] at h
  have S1:=sE x C h.1 ok.1
  have S2:=sE y C h.2 ok.2
  rcases vOr_inv e with ⟨pos,rfl⟩ | ⟨w,z,rest,pos,rfl,rfl⟩
  ·have pw:PW X (.BoolOp .Or [v,y'] pos) (LT X.K (wT (.or x y))):=PW.wk (pw_or S1.pt (pw_or1 S2.pt)) fun σ H Q q=>lt_or q
   exact ⟨PE.wk (pe_or S1.pe (pe_one S2.pe)) fun σ H Q q=>le_or q,pw.pt,fun _ _ _ _=>pw⟩
  ·have pw:PW X (.BoolOp .Or (v :: w :: z :: rest) pos) (LT X.K (wT (.or x y))):=PW.wk (pw_or S1.pt (S2.pw _ _ _ rfl)) fun σ H Q q=>lt_or q
   exact ⟨PE.wk (pe_or S1.pe S2.pe) fun σ H Q q=>le_or q,pw.pt,fun _ _ _ _=>pw⟩
 | .ife t x y,X,c,a,C,h,ok=>by
  have h:(opt (vIf a) fun q=>mE c t q.1 && mE c x q.2.1 && mE c y q.2.2)=true:=h
  obtain ⟨⟨t',x',y'⟩,e,hh⟩:=opt_inv h
  obtain ⟨pos,rfl⟩:=vIf_inv e
  have h:=hh
  simp only [Bool.and_eq_true] at h
  exact ⟨PE.wk (pe_ifExp (sE t C h.1.1 ok.1).pt (sE x C h.1.2 ok.2.1).pe (sE y C h.2 ok.2.2).pe) fun σ H Q q=>le_ife q,pt_never,pw_no (fun _ _ _ z=>by cases z)⟩
 | .call x sp as,X,c,a,C,h,ok=>by
  have h:(opt (vCall a) fun t=>x == t.1 && c.glb x && !oddName x && mEs c as t.2)=true:=h
  obtain ⟨⟨y,args⟩,e,hh⟩:=opt_inv h
  obtain ⟨p,pos,rfl⟩:=vCall_inv e
  have h:=hh
  simp only [Bool.and_eq_true,Bool.not_eq_true',beq_iff_eq] at h
  obtain ⟨⟨⟨rfl,h1⟩,h2⟩,h3⟩:=h
  have pe:PE X (.Call (.Name x p) args [] pos) (LE X.K (wE (.call x sp as))):=by
   cases args with
   | nil =>
    cases as with
    | nil=>exact PE.wk (pe_call0D ok.1 (C.glb x h1) (oddName_of h2).1) fun σ H Q q=>q
    | cons e es=>exact (Bool.false_ne_true h3).elim
   | cons e es =>
    obtain ⟨hst,es',hes⟩:=args_head h3
    exact PE.wk (pe_callD ok.1 (C.glb x h1) (sEs as C h3 ok.2) (oddName_of h2).1 (star_of hst) (any_star hes)) fun σ H Q q=>q
  exact ⟨pe,PT.wk (pt_truD pe fun _=>rfl) fun σ H Q q=>q,pw_no (fun _ _ _ z=>by cases z)⟩
 | .blt x as,X,c,a,C,h,ok=>by
  have h:(opt (vCall a) fun t=>c.calm && knownB.contains x && bname x == t.1 && bltName c t.1 && mEs c as t.2 && !t.2.isEmpty)=true:=h
  obtain ⟨⟨y,args⟩,e,hh⟩:=opt_inv h
  obtain ⟨p,pos,rfl⟩:=vCall_inv e
  have h:=hh
  simp only [Bool.and_eq_true,Bool.not_eq_true',beq_iff_eq,bltName] at h
  obtain ⟨⟨⟨⟨⟨hc,h0⟩,h1⟩,h2,h3⟩,h4⟩,h5⟩:=h
  cases args with
  | nil=>simp at h5
  | cons a1 es =>
   obtain ⟨hst,es',hes⟩:=args_head h4
   have pe:PE X (.Call (.Name y p) (a1 :: es) [] pos) (LE X.K (wE (.blt x as))):=PE.wk (pe_bltD (as:=[]) (by simpa using h0) h1.symm (C.calm hc) (C.room) (C.glb y h2) (C.blt y h3) (sEs as C h4 ok) (star_of hst) (any_star hes)) fun σ H Q q=>q
   exact ⟨pe,PT.wk (pt_truD pe fun _=>rfl) fun σ H Q q=>q,pw_no (fun _ _ _ z=>by cases z)⟩
 | .isin l t,X,c,a,C,h,ok=>by
  have h:(opt (vCall a) fun q=>opt (vTwo q.2) fun w=>opt (vName w.2) fun z=>(q.1 == Str.ofString "isinstance") && bltName c q.1 && ["int","bool","str","tuple","list","dict"].contains t && (z == Str.ofString t) && bltName c z && mE c l w.1 && notStar w.1)=true:=h
  obtain ⟨⟨y,args⟩,e,hh⟩:=opt_inv h
  obtain ⟨p,pos,rfl⟩:=vCall_inv e
  have h:=hh
  obtain ⟨⟨l',zz⟩,e2,hh⟩:=opt_inv h
  obtain rfl:=vTwo_inv e2
  have h:=hh
  obtain ⟨z,e3,h⟩:=opt_inv h
  obtain ⟨p2,e4⟩:=vName_inv e3
  simp only at e4
  subst e4
  simp only [Bool.and_eq_true,beq_iff_eq,bltName] at h
  obtain ⟨⟨⟨⟨⟨⟨h0,h1,h2⟩,h3⟩,h4⟩,h5,h6⟩,h7⟩,h8⟩:=h
  have pe:PE X (.Call (.Name y p) [l',.Name z p2] [] pos) (LE X.K (wE (.isin l t))):=PE.wk (pe_isinD (sE l C h7 ok).pe h0 (by simpa using h3) h4 (C.glb y h1) (C.glb z h5) (C.blt y h2) (C.blt z h6) (star_of h8)) fun σ H Q q=>q
  refine ⟨pe,PT.wk (pt_truD pe fun _=>rfl) fun σ H Q q=>?_,pw_no (fun _ _ _ z=>by cases z)⟩
  obtain ⟨ρ,θ,μ,Qd,s,q,f⟩:=q
  refine ⟨ρ,θ,μ,_,s,q,fun r H1 θ1 μ1 w1 g1 h1=>f r H1 θ1 μ1 w1 g1 h1⟩
 | .meth m o as,X,c,a,C,h,ok=>by
  have h:(opt (vMeth a) fun t=>(if t.2.2.1.isEmpty then false else ["append"].contains m) && t.2.1 == Str.ofString m && baseB t.1 && t.2.2.2 && mE c o t.1 && mEs c as t.2.2.1 && decide (t.2.2.1.length < 30))=true:=h
  obtain ⟨⟨o',m',args,ln⟩,e,hh⟩:=opt_inv h
  obtain ⟨apos,pos,rfl,e2⟩:=vMeth_inv e
  have h:=hh
  simp only [Bool.and_eq_true,beq_iff_eq] at h
  obtain ⟨⟨⟨⟨⟨⟨h0,h2⟩,h3⟩,h4⟩,h5⟩,h6⟩,h7⟩:=h
  have hline:(apos.endLine == pos.line)=true:=by rw [← e2]; exact h4
  refine ⟨?_,pt_never,pw_no (fun _ _ _ z=>by cases z)⟩
  subst h2
  cases args with
  | nil =>
   have:as = .nil:=by
    cases as with
    | nil=>rfl
    | cons e es=>exact (Bool.false_ne_true h6).elim
   subst this
   simp at h0
  | cons e es =>
   obtain ⟨hst,es',hes⟩:=args_head h6
   have h0':m = "append":=by simpa using h0
   have h7':=of_decide_eq_true h7
   rcases h0' with rfl
   ·exact PE.wk (pe_bm PySem.F.plainAttrs_list PySem.F.slot_list_append PySem.F.type_list_append meth_append (sE o C h5 ok.1).pe (sEs as C h6 ok.2) (anyBase h3) (few_of h6 h7') hline (star_of hst) (any_star hes)) fun σ H Q q=>le_meth q
 | .sqm m o as,X,c,a,C,h,ok=>by
  have h:(opt (vMeth a) fun t=>["index","count","get","pop","join","split","partition","startswith"].contains m && t.2.1 == Str.ofString m && baseB t.1 && t.2.2.2 && mE c o t.1 && mEs c as t.2.2.1 && decide (t.2.2.1.length < 30) && !t.2.2.1.isEmpty)=true:=h
  obtain ⟨⟨o',m',args,ln⟩,e,hh⟩:=opt_inv h
  obtain ⟨apos,pos,rfl,e2⟩:=vMeth_inv e
  have h:=hh
  simp only [Bool.and_eq_true,beq_iff_eq] at h
  obtain ⟨⟨⟨⟨⟨⟨⟨h0,h2⟩,h3⟩,h4⟩,h5⟩,h6⟩,h7⟩,h8⟩:=h
  have hline:(apos.endLine == pos.line)=true:=by rw [← e2]; exact h4
  suffices pe:PE X _ (LE X.K (wE (.sqm m o as))) from ⟨pe,pt_truD pe (fun _=>rfl),pw_no (fun _ _ _ z=>by cases z)⟩
  subst h2
  cases args with
  | nil=>exact (Bool.false_ne_true h8).elim
  | cons e es =>
   obtain ⟨hst,es',hes⟩:=args_head h6
   have h0':m = "index"∨m = "count"∨m = "get"∨m = "pop"∨m = "join"∨m = "split"∨m = "partition"∨m = "startswith":=by simpa using h0
   have h7':=of_decide_eq_true h7
   rcases h0' with rfl | rfl | rfl | rfl | rfl | rfl | rfl | rfl
   ·exact PE.wk (pe_bm PySem.F.plainAttrs_list PySem.F.slot_list_index PySem.F.type_list_index sqm_index (sE o C h5 ok.1).pe (sEs as C h6 ok.2) (anyBase h3) (few_of h6 h7') hline (star_of hst) (any_star hes)) fun σ H Q q=>le_sqm (by decide) (by decide) q
   ·exact PE.wk (pe_bm PySem.F.plainAttrs_list PySem.F.slot_list_count PySem.F.type_list_count sqm_count (sE o C h5 ok.1).pe (sEs as C h6 ok.2) (anyBase h3) (few_of h6 h7') hline (star_of hst) (any_star hes)) fun σ H Q q=>le_sqm (by decide) (by decide) q
   ·exact PE.wk (pe_bm PySem.F.plainAttrs_dict PySem.F.slot_dict_get PySem.F.type_dict_get (sqm_get (by obtain ⟨k,hr⟩:=C.room; have:=hr.units; omega)) (sE o C h5 ok.1).pe (sEs as C h6 ok.2) (anyBase h3) (few_of h6 h7') hline (star_of hst) (any_star hes)) fun σ H Q q=>le_sqd (.inl rfl) q
   ·exact PE.wk (pe_bm PySem.F.plainAttrs_dict PySem.F.slot_dict_pop PySem.F.type_dict_pop sqm_pop (sE o C h5 ok.1).pe (sEs as C h6 ok.2) (anyBase h3) (few_of h6 h7') hline (star_of hst) (any_star hes)) fun σ H Q q=>le_sqd (.inr rfl) q
   ·exact PE.wk (pe_bm PySem.F.plainAttrs_str PySem.F.slot_str_join PySem.F.type_str_join sqm_join (sE o C h5 ok.1).pe (sEs as C h6 ok.2) (anyBase h3) (few_of h6 h7') hline (star_of hst) (any_star hes)) fun σ H Q q=>le_sqx (by decide) (by decide) q
   ·exact PE.wk (pe_bm PySem.F.plainAttrs_str PySem.F.slot_str_split PySem.F.type_str_split sqm_split (sE o C h5 ok.1).pe (sEs as C h6 ok.2) (anyBase h3) (few_of h6 h7') hline (star_of hst) (any_star hes)) fun σ H Q q=>le_sqx (by decide) (by decide) q
   ·exact PE.wk (pe_bm PySem.F.plainAttrs_str PySem.F.slot_str_partition PySem.F.type_str_partition sqm_partition (sE o C h5 ok.1).pe (sEs as C h6 ok.2) (anyBase h3) (few_of h6 h7') hline (star_of hst) (any_star hes)) fun σ H Q q=>le_sqx (by decide) (by decide) q
   ·exact PE.wk (pe_bm PySem.F.plainAttrs_str PySem.F.slot_str_startswith PySem.F.type_str_startswith sqm_startswith (sE o C h5 ok.1).pe (sEs as C h6 ok.2) (anyBase h3) (few_of h6 h7') hline (star_of hst) (any_star hes)) fun σ H Q q=>le_sqx (by decide) (by decide) q
 | .efl f tab o,X,c,a,C,h,ok=>by
  have h:(opt (vAttr a) fun t=>t.2 == Str.ofString f && baseB t.1 && mE c o t.1)=true:=h
  obtain ⟨⟨o',f'⟩,e,hh⟩:=opt_inv h
  obtain ⟨pos,rfl⟩:=vAttr_inv e
  have h:=hh
  simp only [Bool.and_eq_true,beq_iff_eq] at h
  obtain ⟨⟨rfl,h2⟩,h3⟩:=h
  exact ⟨PE.wk (pe_eflD (pos:=pos) ok.1 (sE o C h3 ok.2).pe h2) fun σ H Q q=>q,pt_never,pw_no (fun _ _ _ z=>by cases z)⟩
 | .cat m l r,X,c,a,C,h,ok=>by
  have h:(opt (vBin a) fun t=>t.2.1 == .Add && mE c l t.1 && mE c r t.2.2)=true:=h
  obtain ⟨⟨l',op',r'⟩,e,hh⟩:=opt_inv h
  obtain ⟨pos,rfl⟩:=vBin_inv e
  have h:=hh
  simp only [Bool.and_eq_true,beq_iff_eq] at h
  obtain ⟨⟨rfl,h1⟩,h2⟩:=h
  exact ⟨PE.wk (pe_op (cat_ok m) (sE l C h1 ok.1).pe (sE r C h2 ok.2).pe) fun σ H Q q=>le_bin q,pt_never,pw_no (fun _ _ _ z=>by cases z)⟩
 | .idx x y,X,c,a,C,h,ok=>by
  have h:(opt (vSub a) fun t=>mE c x t.1 && mE c y t.2 && plainIxB t.2)=true:=h
  obtain ⟨⟨x',y'⟩,e,hh⟩:=opt_inv h
  obtain ⟨pos,rfl⟩:=vSub_inv e
  have h:=hh
  simp only [Bool.and_eq_true] at h
  have pe:PE X (.Subscript x' y' pos) (LE X.K (wE (.idx x y))):=PE.wk (pe_ix idx_ok (sE x C h.1.1 ok.1).pe (sE y C h.1.2 ok.2).pe (plainIx_of h.2)) fun σ H Q q=>le_bin q
  exact ⟨pe,PT.wk (pt_truD pe fun _=>rfl) fun σ H Q q=>q,pw_no (fun _ _ _ z=>by cases z)⟩
 | .slc m x lo hi,X,c,a,C,h,ok=>by
  have h:(opt (vSlc a) fun t=>mE c x t.1 && mO c lo t.2.1 && mO c hi t.2.2)=true:=h
  obtain ⟨⟨x',lo',hi'⟩,e,hh⟩:=opt_inv h
  obtain ⟨p2,pos,rfl⟩:=vSlc_inv e
  have h:=hh
  simp only [Bool.and_eq_true] at h
  exact ⟨PE.wk (pe_slice (slc_ok m) (sE x C h.1.1 ok.1).pe (sO lo C h.1.2 ok.2.1) (sO hi C h.2 ok.2.2)) fun σ H Q q=>le_slc q,pt_never,pw_no (fun _ _ _ z=>by cases z)⟩
 | .tup as,X,c,a,C,h,ok=>by
  have h:(opt (vTup a) fun es=>mEs c as es && decide (es.length≤16777216))=true:=h
  obtain ⟨es,e,hh⟩:=opt_inv h
  obtain ⟨k,pos,rfl⟩:=vTup_inv e
  have h:=hh
  simp only [Bool.and_eq_true] at h
  refine ⟨PE.wk (pe_tup (sEs as C h.1 ok)) fun σ H Q q=>?_,pt_never,pw_no (fun _ _ _ z=>by cases z)⟩
  obtain ⟨ρ,θ,μ,Qd,s,q,f⟩:=q
  refine ⟨ρ,θ,μ,_,s,q,fun ds vs H1 θ1 μ1 w1 g1 r1 h1=>⟨?_,fun p hp=>new_tup w1 (f.mono g1) r1 h1.2 hp⟩⟩
  rw [← r1.length,← lim_eq]; exact h1.1
 | .lst m as,X,c,a,C,h,ok=>by
  have h:(opt (vLst a) fun es=>mEs c as es && decide (es.length≤16777216))=true:=h
  obtain ⟨es,e,hh⟩:=opt_inv h
  obtain ⟨pos,rfl⟩:=vLst_inv e
  have h:=hh
  simp only [Bool.and_eq_true] at h
  refine ⟨PE.wk (pe_lst (sEs as C h.1 ok)) fun σ H Q q=>?_,pt_never,pw_no (fun _ _ _ z=>by cases z)⟩
  obtain ⟨ρ,θ,μ,Qd,s,q,f⟩:=q
  refine ⟨ρ,θ,μ,_,s,q,fun ds vs H1 θ1 μ1 w1 g1 r1 h1=>⟨?_,fun p hp=>newL_ok w1 (f.mono g1) r1 h1.2 hp⟩⟩
  rw [← r1.length,← lim_eq]; exact h1.1
 | .dsp ks as,X,c,a,C,h,ok=>by
  replace h:mDsp ks as a=true:=h
  unfold mDsp at h
  split at h
  ·rename_i k i k' j jj jp pos
   simp only [Bool.and_eq_true,beq_iff_eq] at h
   obtain ⟨h1,rfl⟩:=h
   have hk:∃ ke,k'=some ke∧PE X ke (tC (kV (keyOf k))):=by
    unfold keyC at h1
    split at h1
    ·have e:=eq_of_beq h1
     subst e
     exact ⟨_,rfl,pe_int⟩
    ·rename_i st x _ _
     have e:=of_decide_eq_true h1
     subst e
     refine ⟨_,rfl,?_⟩
     have e2:keyOf (.inr st.cps.toList) = .inr st:=by simp [keyOf]
     rw [e2]
     exact pe_str
    ·cases h1
   obtain ⟨ke,rfl,hk⟩:=hk
   refine ⟨PE.wk (pe_dict1 hk pe_int) fun σ H Q q=>?_,pt_never,pw_no (fun _ _ _ z=>by cases z)⟩
   obtain ⟨ρ,θ,μ,Qd,s,q,f⟩:=q
   exact fun p hp=>new_dict s.wok f q.2 hp
  ·cases h
 | .comp m n tt cap elt it cond,X,c,a,C,h,ok=>by
  have h:(opt (vComp a) fun t=>(c.calm || (rngIt it && !tt)) && opt (tgNames tt t.2.1) fun xs=>opt (capNames c cap) fun cs=>n == xs.length && compC c t.2.2.2.2 (xs ++ cs) cs && zipTg tt it && mI c it t.2.2.1 && mTg (c.in_ (xs ++ cs) t.2.2.2.2.names) (List.range n) tt t.2.1 && mE (c.in_ (xs ++ cs) t.2.2.2.2.names) elt t.1 && mEs (c.in_ (xs ++ cs) t.2.2.2.2.names) cond t.2.2.2.1 && decide (t.2.2.2.1.length≤1))=true:=h
  obtain ⟨⟨elt',tg,iter,ifs,scope⟩,e,hh⟩:=opt_inv h
  obtain ⟨pos,rfl⟩:=vComp_inv e
  have h:=hh
  simp only [Bool.and_eq_true] at h
  obtain ⟨hcm,h⟩:=h
  obtain ⟨xs,hxs,h⟩:=opt_inv h
  obtain ⟨cs,hcs,h⟩:=opt_inv h
  simp only [Bool.and_eq_true,beq_iff_eq] at h
  obtain ⟨⟨⟨⟨⟨⟨⟨hn,h1⟩,hz⟩,h2⟩,hg⟩,h3⟩,h4⟩,h5⟩:=h
  have h5:=of_decide_eq_true h5
  subst hn
  exact ⟨PE.wk (pe_comp (compTxt_of C hcs h1) (sI it C h2 ok.2.1 (zipTg_of hg hz) (cmOr hcm)) (fun cl Ca s H ex=>pg_of (ctx_comp C h1 cl Ca s H ex) (cmTt hcm) hg) (fun cl Ca s H ex=>sTs cond (ctx_comp C h1 cl Ca s H ex) h4 h5 ok.2.2) (fun cl Ca s H ex=>(sE elt (ctx_comp C h1 cl Ca s H ex) h3 ok.1).pe) (folded_of (mI_set h2))) fun σ H Q q=>le_comp (tgn hxs) q,pt_never,pw_no (fun _ _ _ z=>by cases z)⟩
 | .isx l tt ts tab,X,c,a,C,h,ok=>by
  have h:(opt (vCall a) fun q=>opt (vTwo q.2) fun w=>(q.1 == Str.ofString "isinstance") && bltName c q.1 && mE c l w.1 && notStar w.1 && mCl c tt ts w.2)=true:=h
  obtain ⟨⟨y,args⟩,e,hh⟩:=opt_inv h
  obtain ⟨p,pos,rfl⟩:=vCall_inv e
  have h:=hh
  obtain ⟨⟨l',cl⟩,e2,hh⟩:=opt_inv h
  obtain rfl:=vTwo_inv e2
  have h:=hh
  simp only [Bool.and_eq_true,beq_iff_eq,bltName] at h
  obtain ⟨⟨⟨⟨h0,h1,h2⟩,h3⟩,h4⟩,h5⟩:=h
  have pe:=pe_isxD (p:=p) (pos:=pos) C.glb ok.1 (sE l C h3 ok.2).pe h0 (C.glb y h1) (C.blt y h2) h5 (star_of h4)
  refine ⟨PE.wk pe fun σ H Q q=>q,PT.wk (pt_truth pe fun _=>rfl) fun σ H Q q=>?_,pw_no (fun _ _ _ z=>by cases z)⟩
  obtain ⟨ρ,θ,μ,Qd,s,q,f⟩:=q
  refine ⟨ρ,θ,μ,fun r μ2=>wBl r μ2 Qd,s,q,fun d v H1 θ1 μ1 w1 g1 r1 h1=>?_⟩
  cases d with
  | bl b=>exact ⟨b,truV_of w1 r1 rfl,f b H1 θ1 μ1 w1 g1 h1⟩
  | _=>exact h1.elim
 | .frz x,X,c,a,C,h,ok=>by
  have S:=sE x C h ok
  exact ⟨PE.wk (pe_frzD S.pe) fun σ H Q q=>q,pt_never,fun op vs pos e=>fun wh pins s σ H Q I q=>by obtain ⟨_,_,_,_,_,q,_⟩:=q; exact q.elim⟩
theorem sEs:∀ (es:Es) {X:Cx} {c:Ctx} {as:List Expr},CtxOk X c→mEs c es as=true→okEs (FnRef X) (GblRef X) es→PA X as (LA X.K (wEs es))
 | .nil,X,c,as,C,h,_=>by
  have:as=[]:=by simpa [mEs] using h
  subst this
  exact PA.wk pa_nilD fun σ H Q q=>q
 | .cons e es,X,c,as,C,h,ok=>by
  cases as with
  | nil=>simp [mEs] at h
  | cons a as =>
   simp only [mEs,Bool.and_eq_true] at h
   exact PA.wk (pa_consD (sE e C h.1.1 ok.1).pe (sEs es C h.2 ok.2) (star_of h.1.2)) fun σ H Q q=>q
theorem sO:∀ (es:Es) {X:Cx} {c:Ctx} {a:Option Expr},CtxOk X c→mO c es a=true→okEs (FnRef X) (GblRef X) es→PO X a (LO X.K (wO es))
 | .nil,X,c,a,C,h,_=>by
  cases a with
  | none=>exact fun pins s σ H Q I q=>po_noneD pins s σ H Q I q
  | some _=>simp [mO] at h
 | .cons e es,X,c,a,C,h,ok=>by
  cases a with
  | none=>simp [mO] at h
  | some a =>
   cases es with
   | nil=>exact fun pins s σ H Q I q=>po_someD (sE e C (by simpa [mO] using h) ok.1).pe pins s σ H Q I q
   | cons _ _=>simp [mO] at h
theorem sTs:∀ (es:Es) {X:Cx} {c:Ctx} {as:List Expr},CtxOk X c→mEs c es as=true→as.length≤1→okEs (FnRef X) (GblRef X) es→PIf X as (LT X.K (wTs es))
 | .nil,X,c,as,C,h,_,_=>by
  have:as=[]:=by simpa [mEs] using h
  subst this
  intro pins s σ H Q I q
  obtain ⟨ρ,θ,μ,Qd,sm,q,f⟩:=q
  exact pif_nil pins s σ H Q I (f true H θ μ sm.wok Grow.refl q)
 | .cons e es,X,c,as,C,h,hl,ok=>by
  cases as with
  | nil=>simp [mEs] at h
  | cons a as =>
   simp only [mEs,Bool.and_eq_true] at h
   have:as=[]:=by
    cases as with
    | nil=>rfl
    | cons _ _=>simp at hl
   subst this
   have:es = .nil:=by
    cases es with
    | nil=>rfl
    | cons _ _=>simp [mEs] at h
   subst this
   have S:=sE e C h.1.1 ok.1
   intro pins s σ H Q I q
   refine pif_one S.pt pins s σ H Q I ?_
   obtain ⟨ρ,θ,μ,Qd,sm,q,f⟩:=q
   exact ⟨ρ,θ,μ,Qd,sm,q,f⟩
theorem sI:∀ (it:It) {X:Cx} {c:Ctx} {a tg:Expr},CtxOk X c→mI c it a=true→okI (FnRef X) (GblRef X) it→zipTg (isTup tg) it=true→(c.calm=true∨rngIt it=true)→PI X tg a (LI X.K (wI it))
 | .seq e,X,c,a,tg,C,h,ok,_,hcm=>by
  simp only [mI,Bool.and_eq_true] at h
  exact fun pins s σ H R I q=>pi_seqD (C.calm (hcm.resolve_right Bool.false_ne_true)) (sE e C h.1 ok).pe pins s σ H R I q
 | .rng as,X,c,a,tg,C,h,ok,_,hcm=>by
  have h:(opt (vCall a) fun t=>(t.1 == Str.ofString "range") && bltName c t.1 && mEs c as t.2 && (t.2.length == 1))=true:=h
  obtain ⟨⟨y,args⟩,e,hh⟩:=opt_inv h
  obtain ⟨p,pos,rfl⟩:=vCall_inv e
  have h:=hh
  simp only [Bool.and_eq_true,Bool.or_eq_true,beq_iff_eq,bltName] at h
  obtain ⟨⟨⟨h0,h1,h2⟩,h3⟩,h4⟩:=h
  have hA:=sEs as C h3 ok
  have hl:=esLen_eq h3
  match args,h3,h4,hA,hl with
  | [a1],h3,_,hA,hl =>
   have k1:=(args_head h3).1
   exact fun pins s σ H R I q=>pi_rng1D h0 (C.glb y h1) (C.blt y h2) hA (by rw [star_of k1]; rfl) pins s σ H R I (by simp only [wI,hl] at q; exact q)
  | [],_,h4,_,_=>simp at h4
  | _ :: _ :: _,_,h4,_,_=>simp at h4
 | .zip l r,X,c,a,tg,C,h,ok,ht,hcm=>by
  have h:(opt (vCall a) fun t=>opt (vTwo t.2) fun w=>(t.1 == Str.ofString "zip") && bltName c t.1 && mE c l w.1 && mE c r w.2 && notStar w.1 && notStar w.2)=true:=h
  obtain ⟨⟨y,args⟩,e,hh⟩:=opt_inv h
  obtain ⟨p,pos,rfl⟩:=vCall_inv e
  have h:=hh
  obtain ⟨⟨l',r'⟩,e2,hh⟩:=opt_inv h
  obtain rfl:=vTwo_inv e2
  have h:=hh
  simp only [Bool.and_eq_true,beq_iff_eq,bltName] at h
  obtain ⟨⟨⟨⟨⟨h0,h1,h2⟩,h3⟩,h4⟩,h5⟩,h6⟩:=h
  simp only [zipTg] at ht
  cases tg with
  | Tuple es k tp=>exact fun pins s σ H R I q=>pi_zipD (C.calm (hcm.resolve_right Bool.false_ne_true)) h0 (C.glb _ h1) (C.blt _ h2) (sE l C h3 ok.1).pe (sE r C h4 ok.2).pe (by rw [star_of h5,star_of h6]; rfl) (by rw [star_of h6]; rfl) pins s σ H R I q
  | _=>exact (Bool.false_ne_true ht).elim
 | .enum l,X,c,a,tg,C,h,ok,ht,hcm=>by
  have h:(opt (vCall a) fun t=>match t.2 with | [l']=>(t.1 == Str.ofString "enumerate") && bltName c t.1 && mE c l l' && notStar l' | _=>false)=true:=h
  obtain ⟨⟨y,args⟩,e,hh⟩:=opt_inv h
  obtain ⟨p,pos,rfl⟩:=vCall_inv e
  have h:=hh
  match args,h with
  | [l'],h =>
   simp only [Bool.and_eq_true,beq_iff_eq,bltName] at h
   obtain ⟨⟨⟨h0,h1,h2⟩,h3⟩,h5⟩:=h
   simp only [zipTg] at ht
   cases tg with
   | Tuple es k tp=>exact fun pins s σ H R I q=>pi_enumD (C.calm (hcm.resolve_right Bool.false_ne_true)) h0 (C.glb _ h1) (C.blt _ h2) (sE l C h3 ok).pe (by rw [star_of h5]; rfl) pins s σ H R I q
   | _=>exact (Bool.false_ne_true ht).elim
  | [],h=>exact (Bool.false_ne_true h).elim
  | _ :: _ :: _,h=>exact (Bool.false_ne_true h).elim
end
end DW
end
section
set_option autoImplicit false
set_option maxHeartbeats 4000000
namespace DW
open PySem PySem.Spec PyProof.Rows L2
theorem swapS_of {t e:Expr} {n:Nat} {env:Env} (h:notComp e=true):swapsWithSole [t] e n env=pure false:=swap_of h
theorem assign_sub {o i:Expr} {pos:Pos} {env:Env} (h:plainIxB i=true):∀ v,assign (.Subscript o i pos) env v=(do
   let ov ← holding [v] (eval o env)
   let iv ← holding [v,ov] (eval i env)
   standAt pos
   holding [v,ov,iv] (setItem ov iv v)
   release [v,ov,iv] []):=by
 intro v
 cases i <;> first | rfl | exact (Bool.false_ne_true h).elim
section
variable {X:Cx} {EX:L2.St→XK}
theorem ls_set {i:Nat} {we:WE} {D:Ends} {σ:L2.St} {H:Hp} (h:LS X.K EX (fun Z ρ μ=>we ρ μ fun d μ1=>Z.nx (ρ.set i (some d)) μ1) D σ H):tAsg (LE X.K we) (gName i) D σ H:=by
 obtain ⟨ρ,θ,μ,Z,s,h,f⟩:=h
 exact ⟨ρ,θ,μ,_,s,h,fun d v H1 θ1 μ1 w1 g1 r1 h1=>f.nx _ H1 _ θ1 μ1 ((s.grow w1 g1).set r1 i) g1 h1⟩
theorem ls_asg {bnd:D→Rho→(Rho→Prop)→Prop} {we:WE} {D:Ends} {σ:L2.St} {H:Hp} (h:LS X.K EX (fun Z ρ μ=>we ρ μ fun d μ1=>bnd d ρ fun ρ'=>Z.nx ρ' μ1) D σ H):tAsg (LE X.K we) (LG X.K bnd) D σ H:=by
 obtain ⟨ρ,θ,μ,Z,s,h,f⟩:=h
 exact ⟨ρ,θ,μ,_,s,h,fun d v H1 θ1 μ1 w1 g1 r1 h1=>⟨d,ρ,θ1,μ1,_,s.grow w1 g1,r1,h1,fun σ' ρ' s' q=>f.nx σ' H1 ρ' θ1 μ1 s' g1 q⟩⟩
theorem ls_setIx {wo wi we:WE} {D:Ends} {σ:L2.St} {H:Hp} (h:LS X.K EX (fun Z ρ μ=>we ρ μ fun v μ1=>wo ρ μ1 fun x μ2=>wi ρ μ2 fun y μ3=>wSetIx x y v μ3 fun μ4=>Z.nx ρ μ4) D σ H) :
  tAsg (LE X.K we) (gSub (LE X.K wo) (LE X.K wi) (fun o i v H Q=>∃ x y z θ μ k,WOk X.K H θ μ∧Rp X.K H θ μ x o∧Rp X.K H θ μ y i∧Rp X.K H θ μ z v∧wSetIx x y z μ k∧∀ H' μ',WOk X.K H' θ μ'→Grow H θ μ H' θ μ'→k μ'→Q H')) D σ H:=by
 obtain ⟨ρ,θ,μ,Z,s,h,f⟩:=h
 refine ⟨ρ,θ,μ,_,s,h,fun d v H1 θ1 μ1 w1 g1 r1 h1=>⟨ρ,θ1,μ1,_,s.grow w1 g1,h1,fun x vx H2 θ2 μ2 w2 g2 r2 h2=>⟨ρ,θ2,μ2,_,s.grow w2 (g1.trans g2),h2,fun y vy H3 θ3 μ3 w3 g3 r3 h3=>?_⟩⟩⟩
 exact ⟨x,y,d,θ3,μ3,_,w3,g3.rep r2,r3,(g2.trans g3).rep r1,h3,fun H4 μ4 w4 g4 q=>f.nx σ H4 ρ θ3 μ4 (s.grow w4 (((g1.trans g2).trans g3).trans g4)) (((g1.trans g2).trans g3).trans g4) q⟩
theorem swapped_none {tg v:Expr} {env:Env} (h:notTupleE v=true):swappedStores [tg] v env=pure none:=by
 unfold swappedStores
 cases tg <;> first | rfl | (cases v <;> first | rfl | exact (Bool.false_ne_true h).elim)
end
structure SCtx (X:Cx) (EX:L2.St→XK) (c:Ctx):Prop extends CtxOk X c where
 mt:Meets X EX
 lv:c.rs=true→∃ E,Leaves X E∧EX=fun _=>E
 st:c.calm=true→X.ex=[]∧X.stack=X.env :: X.outer∧X.env.frame=some X.env.locals
noncomputable def never:L2.St→XK:=fun _ _ _ _=>False
theorem sctx_b {X:Cx} {EX EX':L2.St→XK} {c:Ctx} {pn:List (Addr×Obj)} {ξ:Value→Shared→Prop} (C:SCtx X EX c) (M:Meets (Xb X pn ξ) EX') (P:PassesOwn (model X.prog X.w) X.A X.env ξ):SCtx (Xb X pn ξ) EX' { c with rs:=false } :=
 ⟨⟨C.N,C.nd,C.vis,C.loc,C.isl,C.glb,C.clo,C.blt,C.calm,C.room,P⟩,M,fun z=>(Bool.false_ne_true z).elim,C.st⟩
theorem room_h15 {X:Cx} {ea:Addr} (r:Room 15 X.A):Room 15 (Xh X ea).A:=⟨fun z=>absurd z (by decide),r.dp,r.un,r.gd⟩
theorem room_h {X:Cx} {ea:Addr} (r:∃ k,Room k X.A):∃ k,Room k (Xh X ea).A:=by
 obtain ⟨k,r⟩:=r
 have r:=r.mono (Nat.min_le_left k 15)
 exact ⟨min k 15,fun z=>absurd (Nat.le_trans z (Nat.min_le_right k 15)) (by decide),r.dp,r.un,r.gd⟩
theorem sctx_h {X:Cx} {EX:L2.St→XK} {c:Ctx} {ea:Addr} (C:SCtx X EX c):SCtx (Xh X ea) never { c with rs:=false,calm:=false } :=
 ⟨⟨C.N,C.nd,C.vis,C.loc,C.isl,C.glb,C.clo,C.blt,fun z=>(Bool.false_ne_true z).elim,room_h C.room,PassesOwn.never⟩,
  fun pins σ H s E' e s' I hE h=>by obtain ⟨_,ob,_,_,H',_,_,_,_,q⟩:=h; exact (hE _ _ H' q).elim,fun z=>(Bool.false_ne_true z).elim,fun z=>(Bool.false_ne_true z).elim⟩
theorem mXC_comp {c:Ctx} {k:XC} {a:Expr} (h:mXC c k a=true):notComp a=true:=by
 cases k with
 | fn x sp as=>obtain ⟨t,e,_⟩:=opt_inv h; obtain ⟨_,_,rfl⟩:=vCall_inv e; rfl
theorem sXC:∀ (k:XC) {X:Cx} {EX:L2.St→XK} {c:Ctx} {a:Expr},SCtx X EX c→mXC c k a=true→okXC (FnRef X) (GblRef X) k→PE X a (LX X.K EX (wXC k))
 | .fn x sp as,X,EX,c,a,C,h,ok=>by
  replace h:(opt (vCall a) fun t=>x == t.1 && c.glb x && !oddName x && mEs c as t.2)=true:=h
  obtain ⟨⟨y,args⟩,e,hh⟩:=opt_inv h
  obtain ⟨p,pos,rfl⟩:=vCall_inv e
  replace h:=hh
  clear e hh
  simp only [Bool.and_eq_true,Bool.not_eq_true',beq_iff_eq] at h
  obtain ⟨⟨⟨rfl,h1⟩,h2⟩,h3⟩:=h
  cases args with
  | nil =>
   cases as with
   | nil=>exact PE.wk (pe_call0XD C.mt ok.1 (C.glb _ h1) (oddName_of h2).1) fun σ H Q q=>q
   | cons e es=>exact (Bool.false_ne_true h3).elim
  | cons e es =>
   obtain ⟨hst,es',hes⟩:=args_head h3
   exact PE.wk (pe_callXD C.mt ok.1 (C.glb _ h1) (sEs as C.toCtxOk h3 ok.2) (oddName_of h2).1 (star_of hst) (any_star hes)) fun σ H Q q=>q
theorem still_ref {X:Cx} {ea:Addr} {r:Rf} {sp:DSp} (h:hRf (FnRef X) r sp):FnRef (Xh X ea) r sp:=by
 cases r with
 | fn x=>obtain ⟨fa,fd,ps,h1,h2,h3,h4,h5⟩:=(show FnRef X (.fnM x) sp from h); exact ⟨fa,fd,ps,15,h1,h2,h3,h4,room_h15 h5⟩
 | fld c f=>exact h.2
 | isx tt ts tab=>exact h.2
 | efl f tab=>exact h.2
 | _=>exact absurd h.1 (by simp [Rf.still])
mutual
theorem sS:∀ (st:S) {X:Cx} {EX:L2.St→XK} {c:Ctx} {a:Stmt},SCtx X EX c→mS c st a=true→okS (FnRef X) (GblRef X) st→PS X a (LS X.K EX (wS st))
 | .set i e,X,EX,c,a,C,h,ok=>by
  replace h:(opt (uAsg a) fun t=>opt (vName t.1) fun x=>c.at_ i x && c.loc x && mE c e t.2 && (notComp t.2 || isCompE e))=true:=h
  obtain ⟨⟨tg,v⟩,e1,hh⟩:=opt_inv h
  obtain ⟨x,e2,hh⟩:=opt_inv hh
  obtain ⟨p,rfl⟩:=vName_inv (a:=tg) e2
  obtain ⟨pos,rfl⟩:=uAsg_inv e1
  replace h:=hh
  simp only [Bool.and_eq_true] at h
  obtain ⟨⟨⟨h1,h2⟩,h3⟩,h4⟩:=h
  obtain ⟨l1,l2⟩:=C.loc x h2
  have hN:X.N.Nodup:=by rw [C.N]; exact C.nd
  have hi:X.N[i]? = some x:=by rw [C.N]; exact at_some h1
  have S:=sE e C.toCtxOk h3 ok
  by_cases hn:notComp v=true
  ·exact PS.wk (ps_set hN hi l1 S.pe (swap_of hn) l2) fun D σ H q=>ls_set q
  ·have h4:isCompE e=true:=by
    rcases Bool.or_eq_true_iff.mp h4 with z | z
    ·exact absurd z hn
    ·exact z
   cases e with
   | comp m n tt cap elt it cond =>
    have hv:mE c (.comp m n tt cap elt it cond) v=true→∃ elt' tg iter ifs scope vpos,v = .ListComp elt' [⟨tg,iter,ifs,0⟩] scope vpos∧((c.calm || (rngIt it && !tt)) && opt (tgNames tt tg) fun xs=>opt (capNames c cap) fun cs=>n == xs.length && compC c scope (xs ++ cs) cs && zipTg tt it && mI c it iter && mTg (c.in_ (xs ++ cs) scope.names) (List.range n) tt tg && mE (c.in_ (xs ++ cs) scope.names) elt elt' && mEs (c.in_ (xs ++ cs) scope.names) cond ifs && decide (ifs.length≤1))=true:=fun z=>by
     obtain ⟨⟨elt',tg,iter,ifs,scope⟩,e,hh⟩:=opt_inv z
     obtain ⟨vpos,e⟩:=vComp_inv e
     exact ⟨elt',tg,iter,ifs,scope,vpos,e,hh⟩
    obtain ⟨elt',tg,iter,ifs,scope,vpos,rfl,h9⟩:=hv h3
    replace h3:=h9
    have hsw:swapsWith (.ListComp elt' [⟨tg,iter,ifs,0⟩] scope vpos) (some (.Name x p)) pos.line X.env=pure (X.env.blockKind == .function && X.env.kindOf x == some .local && p.line == (Expr.ListComp elt' [⟨tg,iter,ifs,0⟩] scope vpos).pos.line && !(scope.names.any fun (n,k)=>n == x && (k == .local || k == .cell))):=rfl
    cases hb:(X.env.blockKind == .function && X.env.kindOf x == some .local && p.line == (Expr.ListComp elt' [⟨tg,iter,ifs,0⟩] scope vpos).pos.line && !(scope.names.any fun (n,k)=>n == x && (k == .local || k == .cell))) with
    | false =>
     rw [hb] at hsw
     exact PS.wk (ps_set hN hi l1 S.pe hsw l2) fun D σ H q=>ls_set q
    | true =>
     rw [hb] at hsw
     have hl:X.env.scope.names.lookup x=some .local:=by
      simp only [Bool.and_eq_true,beq_iff_eq] at hb
      exact hb.1.1.2
     simp only [Bool.and_eq_true] at h3
     obtain ⟨hcm,h3⟩:=h3
     obtain ⟨xs,hxs,h3⟩:=opt_inv h3
     obtain ⟨cs,hcs,h3⟩:=opt_inv h3
     simp only [Bool.and_eq_true,beq_iff_eq] at h3
     obtain ⟨⟨⟨⟨⟨⟨⟨hn,k1⟩,kz⟩,k2⟩,kg⟩,k3⟩,k4⟩,k5⟩:=h3
     have k5:=of_decide_eq_true k5
     subst hn
     have ok':okE (FnRef X) (GblRef X) elt∧okI (FnRef X) (GblRef X) it∧okEs (FnRef X) (GblRef X) cond:=ok
     refine PS.wk (ps_setcomp (gt:=LG X.K fun d r k=>bindT (List.range xs.length) tt d r k) (tt:=LT X.K (wTs cond)) (te:=LE X.K (wE elt)) (wi:=LI X.K (wI it)) (compTxt_of C.toCtxOk hcs k1) (sI it C.toCtxOk k2 ok'.2.1 (zipTg_of kg kz) (cmOr hcm)) (fun cl Ca s H ex=>pg_of (ctx_comp C.toCtxOk k1 cl Ca s H ex) (cmTt hcm) kg) (fun cl Ca s H ex=>sTs cond (ctx_comp C.toCtxOk k1 cl Ca s H ex) k4 k5 ok'.2.2) (fun cl Ca s H ex=>(sE elt (ctx_comp C.toCtxOk k1 cl Ca s H ex) k3 ok'.1).pe) (folded_of (mI_set k2)) hN hi hl hsw) fun D σ H q=>?_
     have q:=ls_set (we:=wE (.comp m xs.length tt cap elt it cond)) q
     exact le_comp (tgn hxs) q
   | _=>cases h4
 | .setT is e,X,EX,c,a,C,h,ok=>by
  replace h:(opt (uAsg a) fun t=>opt (vTup t.1) fun ts=>c.calm && mNames c is ts && mE c e t.2 && notComp t.2 && notTupleE t.2)=true:=h
  obtain ⟨⟨tg,v⟩,e1,hh⟩:=opt_inv h
  obtain ⟨ts,e2,hh⟩:=opt_inv hh
  obtain ⟨k,p,rfl⟩:=vTup_inv (a:=tg) e2
  obtain ⟨pos,rfl⟩:=uAsg_inv e1
  replace h:=hh
  simp only [Bool.and_eq_true] at h
  obtain ⟨⟨⟨⟨hcm,h1⟩,h2⟩,h3⟩,h4⟩:=h
  have S:=sE e C.toCtxOk h2 ok
  exact PS.wk (ps_asg S.pe (pg_of C.toCtxOk (is:=is) (tt:=true) (fun _=>hcm) h1) (swapS_of h3) (swapped_none h4) rfl) fun D σ H q=>ls_asg q
 | .setIx o i e,X,EX,c,a,C,h,ok=>by
  replace h:(opt (uAsg a) fun t=>opt (vSub t.1) fun u=>mE c o u.1 && mE c i u.2 && plainIxB u.2 && mE c e t.2 && notComp t.2)=true:=h
  obtain ⟨⟨tg,v⟩,e1,hh⟩:=opt_inv h
  obtain ⟨⟨o',i'⟩,e2,hh⟩:=opt_inv hh
  obtain ⟨p,rfl⟩:=vSub_inv (a:=tg) e2
  obtain ⟨pos,rfl⟩:=uAsg_inv e1
  replace h:=hh
  simp only [Bool.and_eq_true] at h
  obtain ⟨⟨⟨⟨h1,h2⟩,h3⟩,h4⟩,h5⟩:=h
  exact PS.wk (ps_asg (sE e C.toCtxOk h4 ok.2.2).pe (pg_sub (sE o C.toCtxOk h1 ok.1).pe (sE i C.toCtxOk h2 ok.2.1).pe setIx_ok (assign_sub h3)) (swapS_of h5) (by cases v <;> rfl) rfl) fun D σ H q=>ls_setIx q
 | .exp e,X,EX,c,a,C,h,ok=>by
  replace h:(opt (uExp a) fun v=>mE c e v && notComp v)=true:=h
  obtain ⟨v,e1,hh⟩:=opt_inv h
  obtain ⟨pos,rfl⟩:=uExp_inv e1
  replace h:=hh
  simp only [Bool.and_eq_true] at h
  refine PS.wk (ps_expr (sE e C.toCtxOk h.1 ok).pe (swap_of h.2)) fun D σ H q=>?_
  obtain ⟨ρ,θ,μ,Z,s,q,f⟩:=q
  exact ⟨ρ,θ,μ,_,s,q,fun d v H1 θ1 μ1 w1 g1 r1 h1=>f.nx σ H1 ρ θ1 μ1 (s.grow w1 g1) g1 h1⟩
 | .ret e,X,EX,c,a,C,h,ok=>by
  replace h:(opt (uRet a) fun o=>opt o fun v=>mE c e v)=true:=h
  obtain ⟨o,e1,hh⟩:=opt_inv h
  obtain ⟨v,rfl,hh⟩:=opt_inv hh
  obtain ⟨pos,rfl⟩:=uRet_inv e1
  replace h:=hh
  refine PS.wk (ps_ret (sE e C.toCtxOk h ok).pe) fun D σ H q=>?_
  obtain ⟨ρ,θ,μ,Z,s,q,f⟩:=q
  exact ⟨ρ,θ,μ,_,s,q,f.rt⟩
 | .ite t x y,X,EX,c,a,C,h,ok=>by
  replace h:(opt (uIf a) fun u=>mE c t u.1 && mSs c x u.2.1 && mSs c y u.2.2)=true:=h
  obtain ⟨⟨t',x',y'⟩,e1,hh⟩:=opt_inv h
  obtain ⟨pos,rfl⟩:=uIf_inv e1
  replace h:=hh
  simp only [Bool.and_eq_true] at h
  refine PS.wk (ps_if (sE t C.toCtxOk h.1.1 ok.1).pt (sSs x C h.1.2 ok.2.1) (sSs y C h.2 ok.2.2)) fun D σ H q=>?_
  obtain ⟨ρ,θ,μ,Z,s,q,f⟩:=q
  refine ⟨ρ,θ,μ,_,s,q,fun b H1 θ1 μ1 w1 g1 h1=>?_⟩
  cases b with
  | true=>exact ⟨ρ,θ1,μ1,Z,s.grow w1 g1,h1,f.mono g1⟩
  | false=>exact ⟨ρ,θ1,μ1,Z,s.grow w1 g1,h1,f.mono g1⟩
 | .for_ is tt it b,X,EX,c,a,C,h,ok=>by
  replace h:(opt (uFor a) fun u=>c.calm && mTg c is tt u.1 && mI c it u.2.1 && mSs c b u.2.2 && notSet u.2.1 && zipTg tt it)=true:=h
  obtain ⟨⟨t',i',b'⟩,e1,hh⟩:=opt_inv h
  obtain ⟨pos,rfl⟩:=uFor_inv e1
  replace h:=hh
  simp only [Bool.and_eq_true] at h
  obtain ⟨⟨⟨⟨⟨hcm,h1⟩,h2⟩,h3⟩,h4⟩,hz⟩:=h
  exact PS.wk (ps_forD C.pas (C.calm hcm) (sI it C.toCtxOk h2 ok.1 (zipTg_of h1 hz) (.inl hcm)) (pg_of C.toCtxOk (fun _=>hcm) h1) (sSs b C h3 ok.2) (folded_of h4)) fun D σ H q=>q
 | .nev,X,EX,c,a,C,h,ok=>fun pins s σ H D I q=>by
  obtain ⟨ρ,θ,μ,Z,sm,q,f⟩:=q
  exact q.elim
 | .setX i k,X,EX,c,a,C,h,ok=>by
  replace h:(opt (uAsg a) fun t=>opt (vName t.1) fun x=>c.at_ i x && c.loc x && mXC c k t.2)=true:=h
  obtain ⟨⟨tg,v⟩,e1,hh⟩:=opt_inv h
  obtain ⟨x,e2,hh⟩:=opt_inv hh
  obtain ⟨p,rfl⟩:=vName_inv (a:=tg) e2
  obtain ⟨pos,rfl⟩:=uAsg_inv e1
  replace h:=hh
  simp only [Bool.and_eq_true] at h
  obtain ⟨⟨h1,h2⟩,h3⟩:=h
  obtain ⟨l1,l2⟩:=C.loc x h2
  refine PS.wk (ps_set (by rw [C.N]; exact C.nd) (by rw [C.N]; exact at_some h1) l1 (sXC k C h3 ok) (swap_of (mXC_comp h3)) l2) fun D σ H q=>?_
  obtain ⟨ρ,θ,μ,Z,s,q,f⟩:=q
  exact ⟨ρ,θ,μ,_,Z.xc,s,q,fun d v H1 θ1 μ1 w1 g1 r1 h1=>f.nx _ H1 _ θ1 μ1 ((s.grow w1 g1).set r1 i) g1 h1,fun H' θ' μ' cn ks ds w' g' z=>f.xc σ H' ρ θ' μ' cn ks ds (s.grow w' g') g' z⟩
 | .raisI cn ks as,X,EX,c,a,C,h,ok=>by
  replace h:(opt (uRais a) fun v=>opt (vCall v) fun t=>c.rs && c.calm && t.1 == Str.ofString cn && c.glb t.1 && !oddName t.1 && mEs c as t.2 && !t.2.isEmpty)=true:=h
  obtain ⟨v,e1,hh⟩:=opt_inv h
  obtain ⟨⟨y,args⟩,e2,h9⟩:=opt_inv hh
  obtain ⟨np,cpos,rfl⟩:=vCall_inv e2
  obtain ⟨pos,rfl⟩:=uRais_inv e1
  replace h:=h9
  clear e1 e2 hh h9
  simp only [Bool.and_eq_true,Bool.not_eq_true',beq_iff_eq] at h
  obtain ⟨⟨⟨⟨⟨⟨h1,h2⟩,rfl⟩,h4⟩,h5⟩,h6⟩,_⟩:=h
  obtain ⟨E,L,rfl⟩:=C.lv h1
  refine PS.wk (ps_raisID L (C.calm h2) (C.glb _ h4) ok.1 (sEs as C.toCtxOk h6 ok.2) (any_star h6) (oddName_of h5).1 ?_) fun D σ H q=>q
  cases args with
  | nil=>exact .inl rfl
  | cons e es =>
   refine .inr ⟨e,es,rfl,star_of ?_⟩
   cases as with
   | nil=>simp [mEs] at h6
   | cons e' es'=>simp only [mEs,Bool.and_eq_true] at h6; exact h6.1.2
 | .tryx P tab i b hs,X,EX,c,a,C,h,ok=>by
  replace h:(opt (uTry a) fun t=>opt (uHan t.2) fun u=>opt (vName u.1) fun y=>c.calm && c.at_ i u.2.1 && c.loc u.2.1 && y == Str.ofString P && c.glb y && !oddName y && mSs { c with rs:=false } b t.1 && mSs { c with rs:=false,calm:=false } hs (u.2.2.1 :: u.2.2.2))=true:=h
  obtain ⟨⟨body,hd⟩,e1,hh⟩:=opt_inv h
  obtain ⟨⟨yy,n,s0,suite⟩,e2,hh⟩:=opt_inv hh
  obtain ⟨y,e3,hh⟩:=opt_inv hh
  obtain ⟨np,rfl⟩:=vName_inv (a:=yy) e3
  obtain ⟨hpos,rfl⟩:=uHan_inv (a:=hd) e2
  obtain ⟨pos,rfl⟩:=uTry_inv e1
  replace h:=hh
  simp only [Bool.and_eq_true,Bool.not_eq_true',beq_iff_eq] at h
  obtain ⟨⟨⟨⟨⟨⟨⟨h1,h2⟩,h3⟩,rfl⟩,h5⟩,h6⟩,h7⟩,h8⟩:=h
  obtain ⟨CP,hm,htab⟩:=(show HdlAt X.K X.mg P tab from ok.1)
  obtain ⟨x1,x2,x3⟩:=C.st h1
  refine PS.wk (ps_try (tb:=fun EX'=>LS X.K EX' (wSs b)) (th:=LS X.K never (wSs hs)) (C.calm h1) x1 x2 x3 (by rw [C.N]; exact C.nd) (by rw [C.N]; exact at_some h2) (C.loc n h3).1 (C.loc n h3).2 (C.glb _ h5) hm (oddName_of h6).1
   (fun pn ξ EX' M Pn=>sSs b (sctx_b C M Pn) h7 ok.2.1) (fun ea=>sSs hs (sctx_h (ea:=ea) C) h8 (okSs.mono hs (fun r sp z=>still_ref z) (fun _ _ z=>z) ok.2.2))) fun D σ H q=>?_
  obtain ⟨ρ,θ,μ,Z,s,q,f⟩:=q
  refine ⟨ρ,θ,μ,_,s,q,⟨f.nx,f.rt,f.bk,f.ct,fun σ' H' ρ' θ' μ' cn ks ds s' g' z=>?_⟩⟩
  obtain ⟨z1,z3⟩:=z
  obtain ⟨C',k1,k2⟩:=htab cn (by simpa using z1)
  refine ⟨C',k1,fun dx hdx=>⟨C',rfl,k2,fun ea oe u he hcl hnc hdc=>?_⟩⟩
  have gn:Grow H' θ' μ' (upd H' ea (.frz oe u)) (θ' ++ [ea]) (μ' ++ [.exc cn ks ds]):=Grow.new s'.wok he
  have wn:WOk X.K (upd H' ea (.frz oe u)) (θ' ++ [ea]) (μ' ++ [.exc cn ks ds]):=s'.wok.new (c:=.exc cn ks ds) he (show CellOk X.K _ _ _ ea (.exc cn ks ds) from ⟨C',oe,u,k1,upd_same,hcl,hnc,by rw [hdc]; exact hdx.mono gn⟩)
  have rl:Rp X.K (upd H' ea (.frz oe u)) (θ' ++ [ea]) (μ' ++ [.exc cn ks ds]) (.loc μ'.length) (.ref ea):=by
   unfold Rep
   exact ⟨ea,rfl,by rw [← s'.wok.len]; simp⟩
  have f':=f.mono (g'.trans gn)
  exact ⟨_,_,_,_,(s'.grow wn gn).set rl i,z3,⟨fun _ _ _ _ _ _ _ z=>z.elim,f'.rt,fun _ _ _ _ _ _ _ z=>z.elim,fun _ _ _ _ _ _ _ z=>z.elim,fun _ _ _ _ _ _ _ _ _ _ z=>z.elim⟩⟩
theorem sSs:∀ (st:Ss) {X:Cx} {EX:L2.St→XK} {c:Ctx} {as:List Stmt},SCtx X EX c→mSs c st as=true→okSs (FnRef X) (GblRef X) st→PSs X as (LS X.K EX (wSs st))
 | .nil,X,EX,c,as,C,h,_=>by
  have:as=[]:=by simpa [mSs] using h
  subst this
  refine PSs.wk pss_nil fun D σ H q=>?_
  obtain ⟨ρ,θ,μ,Z,s,q,f⟩:=q
  exact f.nx σ H ρ θ μ s Grow.refl q
 | .cons s r,X,EX,c,as,C,h,ok=>by
  cases as with
  | nil=>simp [mSs] at h
  | cons a as =>
   simp only [mSs,Bool.and_eq_true] at h
   refine PSs.wk (pss_cons (sS s C h.1 ok.1) (sSs r C h.2 ok.2)) fun D σ H q=>?_
   obtain ⟨ρ,θ,μ,Z,sm,q,f⟩:=q
   refine ⟨ρ,θ,μ,_,sm,q,⟨fun σ' H' ρ' θ' μ' s' g' z=>⟨ρ',θ',μ',Z,s',z,f.mono g'⟩,f.rt,f.bk,f.ct,f.xc⟩⟩
end
end DW
end
section
set_option autoImplicit false
set_option maxHeartbeats 2000000
namespace DW
open PySem PySem.Spec PyProof.Rows L2
structure Top where
 P:Program
 w:World
 K:PySem.W.Frag
 mg:Str→Option Value
 base:Heap
noncomputable def FnLev (T:Top) (k:Nat):Rf→DSp→Prop
 | .fn x,sp=>∃ (fa:Addr) (fd:FuncData) (ps:List Str),T.mg x=some (.ref fa)∧PySem.W.keepIn T.K (.ref fa)=true∧Binds T.K fd ps []∧FnOk T.P T.w T.K T.mg T.base (CXE T.P T.w) k fa fd ps (low T.K sp)
 | .mth c m,sp=>∃ (C fa:Addr) (fd:FuncData) (ps:List Str),PySem.W.nsIn T.K mainGlobals (Str.ofString c)=some (some (.ref C))∧Cls T.K C∧Meth T.K C (Str.ofString m) fa∧Binds T.K fd ps []∧FnOk T.P T.w T.K T.mg T.base (CXE T.P T.w) k fa fd ps (low T.K sp)
 | .mk c,sp=>∃ (C fa:Addr) (fd:FuncData) (ps:List Str) (j:Nat),PySem.W.nsIn T.K mainGlobals (Str.ofString c)=some (some (.ref C))∧T.mg (Str.ofString c)=some (.ref C)∧Mk T.K C fa∧Binds T.K fd ps []∧FnOk T.P T.w T.K T.mg T.base (CXE T.P T.w) j fa fd ps (low T.K sp)∧j + 1≤k
 | .fld c f,_=>∃ C:Addr,PySem.W.nsIn T.K mainGlobals (Str.ofString c)=some (some (.ref C))∧Cls T.K C∧NoAttr T.K C (Str.ofString f)
 | .fnX x sp,_=>∃ (fa:Addr) (fd:FuncData) (ps:List Str),T.mg x=some (.ref fa)∧PySem.W.keepIn T.K (.ref fa)=true∧Binds T.K fd ps []∧FnOk T.P T.w T.K T.mg T.base (CXE T.P T.w) k fa fd ps (lowX T.K sp)
 | .mthX c m sp,_=>∃ (C fa:Addr) (fd:FuncData) (ps:List Str),PySem.W.nsIn T.K mainGlobals (Str.ofString c)=some (some (.ref C))∧Cls T.K C∧Meth T.K C (Str.ofString m) fa∧Binds T.K fd ps []∧FnOk T.P T.w T.K T.mg T.base (CXE T.P T.w) k fa fd ps (lowX T.K sp)
 | .mkX c sp,_=>∃ (C fa:Addr) (fd:FuncData) (ps:List Str) (j:Nat),PySem.W.nsIn T.K mainGlobals (Str.ofString c)=some (some (.ref C))∧T.mg (Str.ofString c)=some (.ref C)∧Mk T.K C fa∧Binds T.K fd ps []∧FnOk T.P T.w T.K T.mg T.base (CXE T.P T.w) j fa fd ps (lowX T.K sp)∧j + 1≤k
 | .fnM x,sp=>∃ (fa:Addr) (fd:FuncData) (ps:List Str),T.mg x=some (.ref fa)∧PySem.W.keepIn T.K (.ref fa)=true∧Binds T.K fd ps []∧FnOk T.P T.w T.K T.mg T.base (CXE T.P T.w) 15 fa fd ps (low T.K sp)∧15≤k
 | .rsi c ks,_=>IniAt T.P T.w T.K T.mg T.base c ks∧2≤k
 | .efl f tab,_=>EflAt T.K f tab
 | .rse c,_=>RseAt T.K T.mg c
 | .hdl P tab,_=>HdlAt T.K T.mg P tab
 | .isx tt ts tab,_=>IsxAt T.K T.mg tt ts tab
noncomputable abbrev FnTop (T:Top) (k:Nat):Rf→DSp→Prop:=FnLev T (k + 16)
noncomputable def GblTop (T:Top) (x:Str) (d:D):Prop:=∃ (u:Value) (v:V),T.mg x=some u∧RelV v u∧∀ H θ μ,Rp T.K H θ μ d v
theorem FnLev.up {T:Top} {j k:Nat} {x:Rf} {sp:DSp} (h:FnLev T j x sp) (hk:j≤k):FnLev T k x sp:=by
 cases x with
 | fn x =>
  obtain ⟨fa,fd,ps,h1,h2,h3,h4⟩:=h
  exact ⟨fa,fd,ps,h1,h2,h3,h4.mono hk⟩
 | mth c m =>
  obtain ⟨C,fa,fd,ps,h0,h1,h2,h3,h4⟩:=h
  exact ⟨C,fa,fd,ps,h0,h1,h2,h3,h4.mono hk⟩
 | mk c =>
  obtain ⟨C,fa,fd,ps,i,h0,h1,h2,h3,h4,h5⟩:=h
  exact ⟨C,fa,fd,ps,i,h0,h1,h2,h3,h4,Nat.le_trans h5 hk⟩
 | fld c f=>exact h
 | fnX x sp =>
  obtain ⟨fa,fd,ps,h1,h2,h3,h4⟩:=h
  exact ⟨fa,fd,ps,h1,h2,h3,h4.mono hk⟩
 | mthX c m sp =>
  obtain ⟨C,fa,fd,ps,h0,h1,h2,h3,h4⟩:=h
  exact ⟨C,fa,fd,ps,h0,h1,h2,h3,h4.mono hk⟩
 | mkX c sp =>
  obtain ⟨C,fa,fd,ps,i,h0,h1,h2,h3,h4,h5⟩:=h
  exact ⟨C,fa,fd,ps,i,h0,h1,h2,h3,h4,Nat.le_trans h5 hk⟩
 | fnM x =>
  obtain ⟨fa,fd,ps,h1,h2,h3,h4,h5⟩:=h
  exact ⟨fa,fd,ps,h1,h2,h3,h4,Nat.le_trans h5 hk⟩
 | rsi c ks=>exact ⟨h.1,Nat.le_trans h.2 hk⟩
 | efl f tab=>exact h
 | rse c=>exact h
 | hdl P tab=>exact h
 | isx tt ts tab=>exact h
theorem FnTop.up {T:Top} {j k:Nat} {x:Rf} {sp:DSp} (h:FnTop T j x sp) (hk:j≤k):FnTop T k x sp:=FnLev.up h (Nat.add_le_add_right hk 16)
theorem low_calm {K:PySem.W.Frag} {sp:DSpX} {vs:List V} {H:Hp} {Q:VK} {E:XK} (h:low K (calmSp sp) vs H Q E):lowX K sp vs H Q E:=by
 obtain ⟨ds,θ,μ,Qd,w,r,h,f⟩:=h
 exact ⟨ds,θ,μ,Qd,_,w,r,h,f,fun _ _ _ _ _ _ _ _ z=>z.elim⟩
theorem FnTop.calm {T:Top} {k:Nat} {x:Str} {sp:DSpX} (h:FnTop T k (.fnX x sp) spN):FnTop T k (.fn x) (calmSp sp):=by
 obtain ⟨fa,fd,ps,h1,h2,h3,h4⟩:=h
 exact ⟨fa,fd,ps,h1,h2,h3,h4.imp fun _ _ _ _ z=>low_calm z⟩
theorem gbl_int {T:Top} {x:Str} {i:Int} {t:Tok} (h:T.mg x=some (.int i t)):GblTop T x (.int i):=⟨_,.int i,h,⟨t,rfl⟩,fun _ _ _=>rp_int⟩
theorem sim_start {K:PySem.W.Frag} {H:Hp} {θ:List Addr} {μ:Mem} {ds:List D} {vs:List V} (N:List Str) (w:WOk K H θ μ) (r:Rps K H θ μ ds vs):Sim K (L2.start N vs) H (startD N ds) θ μ:=by
 have hl:=r.length
 refine ⟨w,by simp [L2.start,startD,hl],fun i d h=>?_⟩
 unfold startD at h
 by_cases hi:i < ds.length
 ·rw [List.getElem?_append_left (by simpa using hi),List.getElem?_map] at h
  cases e:ds[i]? with
  | none=>rw [e] at h; cases h
  | some d' =>
   rw [e] at h; cases h
   obtain ⟨v,e1,e2⟩:=r.get e
   refine ⟨v,?_,e2⟩
   unfold L2.start
   rw [List.getElem?_append_left (by simpa using (hl ▸ hi)),List.getElem?_map,e1]; rfl
 ·rw [List.getElem?_append_right (by simpa using hi),List.getElem?_replicate] at h
  split at h <;> cases h
section
variable {T:Top} {k:Nat} {x qual:Str} {st:Stmt} {f:Addr} {fd:FuncData} {N ps blts:List Str} {i:Ss} {sp:DSp} {spx:DSpX}
theorem body_ok {spL:Sp} {cm:Bool} (hcm:cm=true→16≤k) (F:Fun T.K x qual st f fd) (S:FnScope N ps (defScope st)) (hmt:mSs ⟨N,(defScope st).names,blts,cm,true⟩ i (defBody st)=true) (hblt:∀ y,blts.contains y=true→T.mg y=none)
  (ok:okSs (FnLev T k) (GblTop T) i) (len:∀ vs H Q E,spL vs H Q E→vs.length=ps.length)
  (hrun:∀ vs H Q E,spL vs H Q E→∃ ds θ μ Z,WOk T.K H θ μ∧Rps T.K H θ μ ds vs∧wSs i Z (startD N ds) μ∧FinS T.K (fun _=>E) H θ μ Z { nx:=fun _ H'=>Q .non H',rt:=Q }) :
  FnOk T.P T.w T.K T.mg T.base (CXE T.P T.w) (k + 1) f fd ps spL:=by
 obtain ⟨oc,od,kV,doc,pm,an,cdv,ct,osl,rfl,lk,hcd⟩:=F.ex
 refine fn_of lk hcd S len fun A outer s H vs Q E hr h=>?_
 obtain ⟨ds,θ,μ,Z,wok,r,hs,fin⟩:=hrun vs H Q E h
 have L:=leaves_cx (P:=T.P) (w:=T.w) (K:=T.K) (mg:=T.mg) (base:=T.base) (N:=N) (qual:=qual) (scope:=defScope st) (f:=f) (cd:=cdv) (A:=A) (outer:=outer) (s:=s) (H:=H) (E:=E)
 have C:SCtx (cxOf (CXE T.P T.w) T.P T.w T.K T.mg T.base N qual (defScope st) f cdv A outer s H E) (fun _=>E) ⟨N,(defScope st).names,blts,cm,true⟩:=by
  refine ⟨⟨rfl,S.nd,fun y hy=>?_,fun y hy=>?_,fun y hy=>?_,fun y hy=>?_,fun y hy=>hy,fun y hy=>hblt y hy,fun z=>Option.isNone_iff_eq_none.mpr (hr.hd (hcm z)),⟨k,hr⟩,PassesOwn.leaving⟩,meets_of L,fun _=>⟨E,L,rfl⟩,fun _=>⟨rfl,rfl,rfl⟩⟩
  ·unfold Ctx.vis at hy
   split at hy
   ·rename_i z; exact .inl z
   ·rename_i z; exact .inr (.inl z)
   ·rename_i z; exact .inr (.inr z)
   ·cases hy
  ·unfold Ctx.loc at hy
   split at hy
   ·rename_i z; exact ⟨.inl z,.inl rfl⟩
   ·rename_i z; exact ⟨.inr z,.inl rfl⟩
   ·cases hy
  ·have hy':(defScope st).names.lookup y=some .local:=by simpa [isLocal] using hy
   exact hy'
  ·unfold Ctx.glb at hy
   split at hy
   ·rename_i z; exact z
   ·cases hy
 refine ⟨LS T.K (fun _=>E) (wSs i),sSs i C hmt (okSs.mono i (fun y sp' z=>?_) (fun y d z=>z) ok),?_⟩
 ·cases y with
  | fn y =>
   obtain ⟨fa,fd',ps',h1,h2,h3,h4⟩:=z
   exact ⟨fa,fd',ps',k,h1,h2,h3,h4,hr⟩
  | mth c m =>
   obtain ⟨C',fa,fd',ps',h0,h1,h2,h3,h4⟩:=z
   exact ⟨C',fa,fd',ps',k,h0,h1,h2,h3,h4,hr⟩
  | mk c =>
   obtain ⟨C',fa,fd',ps',j,h0,h1,h2,h3,h4,h5⟩:=z
   exact ⟨C',fa,fd',ps',j,h0,h1,h2,h3,h4,hr.mono h5⟩
  | fld c f=>exact z
  | fnX y sp =>
   obtain ⟨fa,fd',ps',h1,h2,h3,h4⟩:=z
   exact ⟨fa,fd',ps',k,h1,h2,h3,h4,hr⟩
  | mthX c m sp =>
   obtain ⟨C',fa,fd',ps',h0,h1,h2,h3,h4⟩:=z
   exact ⟨C',fa,fd',ps',k,h0,h1,h2,h3,h4,hr⟩
  | mkX c sp =>
   obtain ⟨C',fa,fd',ps',j,h0,h1,h2,h3,h4,h5⟩:=z
   exact ⟨C',fa,fd',ps',j,h0,h1,h2,h3,h4,hr.mono h5⟩
  | fnM y =>
   obtain ⟨fa,fd',ps',h1,h2,h3,h4,h5⟩:=z
   exact ⟨fa,fd',ps',h1,h2,h3,h4,hr.mono h5⟩
  | rsi c ks=>exact ⟨z.1,hr.mono z.2⟩
  | efl f tab=>exact z
  | rse c=>exact z
  | hdl P tab=>exact z
  | isx tt ts tab=>exact z
 ·exact ⟨startD N ds,θ,μ,Z,sim_start N wok r,hs,fin⟩
theorem fn_okF (F:Fun T.K x qual st f fd) (S:FnScope N ps (defScope st)) (hmt:mSs (Ctx.of N (defScope st).names blts) i (defBody st)=true) (hblt:∀ y,blts.contains y=true→T.mg y=none)
  (ok:okSs (FnTop T k) (GblTop T) i) (har:∀ ds μ Q,sp ds μ Q→ds.length=ps.length) (hk:Keeps N i sp):FnOk T.P T.w T.K T.mg T.base (CXE T.P T.w) (k + 16 + 1) f fd ps (low T.K sp):=by
 refine body_ok (fun _=>Nat.le_add_left 16 k) F S hmt hblt ok (fun vs H Q E h=>?_) fun vs H Q E h=>?_
 ·obtain ⟨ds,θ,μ,Qd,wok,r,hs,_⟩:=h
  rw [← r.length]; exact har ds μ Qd hs
 ·obtain ⟨ds,θ,μ,Qd,wok,r,hs,fin⟩:=h
  refine ⟨ds,θ,μ,topZ Qd,wok,r,hk ds μ Qd hs,⟨fun σ' H' ρ' θ' μ' s' g z=>?_,fin,fun _ _ _ _ _ _ _ z=>z.elim,fun _ _ _ _ _ _ _ z=>z.elim,fun _ _ _ _ _ _ _ _ _ _ z=>z.elim⟩⟩
  exact fin .non .non H' θ' μ' s'.wok g rp_non z
theorem fn_okFX (F:Fun T.K x qual st f fd) (S:FnScope N ps (defScope st)) (hmt:mSs (Ctx.of N (defScope st).names blts) i (defBody st)=true) (hblt:∀ y,blts.contains y=true→T.mg y=none)
  (ok:okSs (FnTop T k) (GblTop T) i) (har:∀ ds μ Q X,spx ds μ Q X→ds.length=ps.length) (hk:KeepsX N i spx):FnOk T.P T.w T.K T.mg T.base (CXE T.P T.w) (k + 16 + 1) f fd ps (lowX T.K spx):=by
 refine body_ok (fun _=>Nat.le_add_left 16 k) F S hmt hblt ok (fun vs H Q E h=>?_) fun vs H Q E h=>?_
 ·obtain ⟨ds,θ,μ,Qd,Xd,wok,r,hs,_⟩:=h
  rw [← r.length]; exact har ds μ Qd Xd hs
 ·obtain ⟨ds,θ,μ,Qd,Xd,wok,r,hs,fin,finX⟩:=h
  refine ⟨ds,θ,μ,topZX Qd Xd,wok,r,hk ds μ Qd Xd hs,⟨fun σ' H' ρ' θ' μ' s' g z=>?_,fin,fun _ _ _ _ _ _ _ z=>z.elim,fun _ _ _ _ _ _ _ z=>z.elim,fun σ' H' ρ' θ' μ' c ks es s' g z=>finX H' θ' μ' c ks es s'.wok g z⟩⟩
  exact fin .non .non H' θ' μ' s'.wok g rp_non z
theorem fn_ok {y:Str} (F:Fun T.K x qual st f fd) (S:FnScope N ps (defScope st)) (hmt:mSs (Ctx.of N (defScope st).names blts) i (defBody st)=true) (hblt:∀ y,blts.contains y=true→T.mg y=none)
  (ok:okSs (FnTop T k) (GblTop T) i) (har:∀ ds μ Q,sp ds μ Q→ds.length=ps.length) (hk:Keeps N i sp) (hm:T.mg y=some (.ref f)) (hb:Binds T.K fd ps []):FnTop T (k + 1) (.fn y) sp :=
 ⟨f,fd,ps,hm,F.kp,hb,(fn_okF F S hmt hblt ok har hk).mono (by omega:k + 16 + 1≤k + 1 + 16)⟩
end
theorem reps_intsN {K:PySem.W.Frag} {H:Hp} {θ:List Addr} {L:Addr→Prop}:∀ ns:List Int,Reps K H θ L (ns.map D.int) (ns.map V.int)
 | []=>Reps.nil
 | n :: ns=>Reps.cons (by unfold Rep; rfl) (reps_intsN ns)
theorem law_start {K:PySem.W.Frag} {H:Hp} {a:Addr} {ns:List Int} (hl:ns.length≤63) (hO:Only H) (hS:SqL K H a (ns.map V.int)):low K spLaw [.ref a] H (fun v _=>v = .bl true) fun _ _ _=>False:=by
 refine ⟨[.ro (ns.map D.int)],[],[],fun d _=>d = .bl true,⟨rfl,fun m n b h=>by simp at h,fun n b h=>by simp at h,fun n c b h=>by simp at h⟩,Reps.one ?_,⟨ns,rfl,hl,fun _=>rfl⟩,fun d v H' θ' μ' w g r q=>?_⟩
 ·unfold Rep
  refine ⟨a,ns.map V.int,rfl,?_,reps_intsN ns⟩
  rcases hS with (h | ⟨o,h⟩) | h
  ·rcases hO a with z | ⟨o,xs,z⟩
   ·rw [h] at z; cases z
   ·rw [h] at z; cases z
  ·exact .inl ⟨o,h,fun ⟨n,c,e,_⟩=>by simp at e⟩
  ·exact .inr h
 ·subst q; exact inv_bl r
theorem law_walk {l:PySem.W.OpenLaw} {k:Nat} {q:Program} {loose:List Str} {XP:(Str→Option Value)→Heap→Prop} {YP:World→Heap→Prop} {d:DefRec} {K:Params→PySem.W.Frag} (hI:importsNone q=true) (hn:l.most=some 63) (hk:k≤200) (hdf:d.params.defaults=[])
  (hY:∀ (w:World) (h:Heap),YP w h→(K w.params).In h)
  (F:∀ (w:World) (mg:Str→Option Value) (fa:Addr) (h:Heap),(K w.params).In h→h.Ns mainGlobals mg→mg d.name=some (.ref fa) →
   ∃ fd:FuncData,(∀ (s:Shared) (u:Value),BindsTo s fd ⟨[u],[]⟩ [("script",u)])∧∀ base:Heap,(K w.params).In base→base.Ns mainGlobals mg→FnOk l.prog w (K w.params) mg base (CXE l.prog w) k fa fd ["script"] (low (K w.params) spLaw)) :
  PySem.W.WalkO q loose XP YP l.row.toRowW d [] (fun f vs=>PySem.call f vs):=by
 have hr:Room 200 callerA:=⟨fun _=>rfl,by decide,by decide,rfl⟩
 exact L2.walk_of (n:=63) (k:=k) (x:="script") (CX:=fun w=>CXE l.prog w) (sp:=fun w=>low (K w.params) spLaw) hI hn (by decide) hdf (hr.mono hk) hY F (fun _ _ a ns hl hO hS=>law_start hl hO hS) fun w _ _ _ _ z=>by
  obtain ⟨_,_,_,_,_,_,_,_,_,q⟩:=z
  exact q
section
variable {α:Type} {P:List α→Prop}
theorem len1 (h:∀ a,P [a]):∀ us:List α,us.length=1→P us
 | [a],_=>h a
theorem len2 (h:∀ a b,P [a,b]):∀ us:List α,us.length=2→P us
 | [a,b],_=>h a b
end
noncomputable def DefAt (K:PySem.W.Frag) (x:Str) (st:Stmt):Prop:=∃ (f:Addr) (fd:FuncData),PySem.W.nsIn K mainGlobals x=some (some (.ref f))∧Fun K x x st f fd
theorem defAt_mk {K:PySem.W.Frag} {x:Str} {st:Stmt} {f:Addr} {oc:Value} {od an:Option Addr} {osl:Array (Option Value)} {kV doc pm cdv ct:Value} (a:PySem.W.nsIn K mainGlobals x=some (some (.ref f)))
  (l:K.lookup f=some ⟨oc,od,.func (PySem.W.fnOf x x (defArgs st) (defBody st) (defScope st) .none kV doc pm an cdv ct),osl⟩) (c:PySem.W.codeIn K cdv x=true) (k:PySem.W.keepIn K (.ref f)=true):DefAt K x st:=⟨f,_,a,fun_mk l c k⟩
theorem intAt_mk {K:PySem.W.Frag} {x:Str} {i:Int} {t:Tok} (h:PySem.W.nsIn K mainGlobals x=some (some (.int i t))):∃ t,PySem.W.nsIn K mainGlobals x=some (some (.int i t)):=⟨t,h⟩
noncomputable def FreeAt (K:PySem.W.Frag):List Str→Prop
 | []=>True
 | x :: xs=>PySem.W.nsIn K mainGlobals x=some none∧FreeAt K xs
theorem free_of {K:PySem.W.Frag} {h:Heap} {mg:Str→Option Value} (X:K.In h) (G:h.Ns mainGlobals mg):∀ {xs:List Str},FreeAt K xs→∀ y,xs.contains y=true→mg y=none
 | [],_,y,h=>by simp at h
 | x :: xs,F,y,h=>by
  by_cases e:y=x
  ·subst e; exact PySem.W.mg_none_of X G F.1
  ·exact free_of X G F.2 y (by simpa [e] using h)
theorem fn_at {T:Top} {h:Heap} {k:Nat} {x:Str} {st:Stmt} {N ps blts:List Str} {i:Ss} {sp:DSp} (D:DefAt T.K x st) (X:T.K.In h) (G:h.Ns mainGlobals T.mg) (S:FnScope N ps (defScope st)) (hmt:mSs (Ctx.of N (defScope st).names blts) i (defBody st)=true) (hblt:∀ y,blts.contains y=true→T.mg y=none)
  (hbd:∀ (kV doc pm:Value) (an:Option Addr) (cdv ct:Value) (us:List Value),us.length=ps.length→bindArgs (PySem.W.fnOf x x (defArgs st) (defBody st) (defScope st) .none kV doc pm an cdv ct) ⟨us,[]⟩=pure (ps.zip us))
  (har:∀ ds μ Q,sp ds μ Q→ds.length=ps.length) (hk:Keeps N i sp) (ok:okSs (FnTop T k) (GblTop T) i):FnTop T (k + 1) (.fn x) sp:=by
 obtain ⟨f,fd,a,F⟩:=D
 exact fn_ok F S hmt hblt ok har hk (PySem.W.mg_of X G a) (F.binds hbd)
theorem fn_atX {T:Top} {h:Heap} {k:Nat} {x:Str} {st:Stmt} {N ps blts:List Str} {i:Ss} {sp:DSpX} (D:DefAt T.K x st) (X:T.K.In h) (G:h.Ns mainGlobals T.mg) (S:FnScope N ps (defScope st)) (hmt:mSs (Ctx.of N (defScope st).names blts) i (defBody st)=true) (hblt:∀ y,blts.contains y=true→T.mg y=none)
  (hbd:∀ (kV doc pm:Value) (an:Option Addr) (cdv ct:Value) (us:List Value),us.length=ps.length→bindArgs (PySem.W.fnOf x x (defArgs st) (defBody st) (defScope st) .none kV doc pm an cdv ct) ⟨us,[]⟩=pure (ps.zip us))
  (har:∀ ds μ Q X,sp ds μ Q X→ds.length=ps.length) (hk:KeepsX N i sp) (ok:okSs (FnTop T k) (GblTop T) i):FnTop T (k + 1) (.fnX x sp) spN:=by
 obtain ⟨f,fd,a,F⟩:=D
 exact ⟨f,fd,ps,PySem.W.mg_of X G a,F.kp,F.binds hbd,(fn_okFX F S hmt hblt ok har hk).mono (by omega:k + 16 + 1≤k + 1 + 16)⟩
noncomputable def NoAt (K:PySem.W.Frag) (c f:String):Prop:=∃ C:Addr,PySem.W.nsIn K mainGlobals (Str.ofString c)=some (some (.ref C))∧PySem.W.findIn K (.ref C) (Str.ofString f)=some none
theorem noAt_mk {K:PySem.W.Frag} {c f:String} {C:Addr} (a:PySem.W.nsIn K mainGlobals (Str.ofString c)=some (some (.ref C))) (n:PySem.W.findIn K (.ref C) (Str.ofString f)=some none):NoAt K c f:=⟨C,a,n⟩
section
variable {T:Top} {k:Nat} {c m:String} {q:Str} {st:Stmt} {N ps blts:List Str} {i:Ss} {sp:DSp} {spx:DSpX}
end
noncomputable def RseK (K:PySem.W.Frag) (c:String):Prop:=∃ C,PySem.W.nsIn K mainGlobals (Str.ofString c)=some (some (.ref C))∧PySem.W.excIn K C bmVE "ValueError.__new__" = true
noncomputable def XCls (K:PySem.W.Frag) (c:String):Prop:=∃ C,PySem.W.nsIn K mainGlobals (Str.ofString c)=some (some (.ref C))∧ExcCls K C
theorem xCls_mk {K:PySem.W.Frag} {c:String} {C:Addr} {cd:ClassData} (a:PySem.W.nsIn K mainGlobals (Str.ofString c)=some (some (.ref C))) (b:PySem.W.findIn K (.ref C) "__getattribute__" = some (some (.builtin "BaseException.__getattribute__"))) (d:PySem.W.findIn K (.ref C) "__getattr__" = some none)
  (e:PySem.W.mroIn K C (.type "BaseException")=some true) (f:PySem.W.mroIn K C (.type "object")=some true) (g:PySem.W.findIn K (.ref C) "__class__" = some (some (.builtin "object.__class__"))) (h:PySem.W.specialIn K (.builtin "object.__class__") "__get__" = some (some (.builtin "getset_descriptor.__get__")))
  (i:PySem.W.takesIn K (.builtin "object.__class__")=some true) (j:PySem.W.clsIn K C=some cd):XCls K c:=⟨C,a,⟨b,d,e,f,g,h,i,by rw [j]; rfl⟩⟩
noncomputable def HdlK (K:PySem.W.Frag) (P:String) (tab:List String):Prop:=∃ CP,PySem.W.nsIn K mainGlobals (Str.ofString P)=some (some (.ref CP))∧∀ c∈tab,∃ C,PySem.W.nsIn K mainGlobals (Str.ofString c)=some (some (.ref C))∧PySem.W.exmOne K (.ref C) (.ref CP)=some true
noncomputable def ClsValsK (K:PySem.W.Frag):List String→List V→Prop
 | [],[]=>True
 | t :: ts,v :: vs=>((∃ C,v = .ref C∧PySem.W.nsIn K mainGlobals (Str.ofString t)=some (some (.ref C)))∨(v = .ty t∧PySem.W.nsIn K mainGlobals (Str.ofString t)=some none∧bootBuiltins (Str.ofString t)=some (.type t)∧Str.ofString t≠"__name__"))∧ClsValsK K ts vs
 | _,_=>False
noncomputable def IsxK (K:PySem.W.Frag) (tt:Bool) (ts:List String) (tab:List (String×Bool)):Prop:=∃ vs,ClsValsK K ts vs∧∀ p∈tab,∃ C,PySem.W.nsIn K mainGlobals (Str.ofString p.1)=some (some (.ref C))∧ExcCls K C ∧
 (if tt=true then PySem.W.kitAny K (.ref C) (vs.map clsU)=some p.2 else ∃ v,vs=[v]∧PySem.W.kitOne K (.ref C) (clsU v)=some p.2)
section
variable {K:PySem.W.Frag} {h:Heap} {mg:Str→Option Value} (X:K.In h) (G:h.Ns mainGlobals mg)
include X G
theorem RseK.at {c:String} (r:RseK K c):RseAt K mg c:=by
 obtain ⟨C,h1,h2⟩:=r
 exact ⟨C,h1,PySem.W.mg_of X G h1,h2⟩
theorem HdlK.at {P:String} {tab:List String} (r:HdlK K P tab):HdlAt K mg P tab:=by
 obtain ⟨C,h1,h2⟩:=r
 exact ⟨C,PySem.W.mg_of X G h1,h2⟩
theorem ClsValsK.at:∀ {ts:List String} {vs:List V},ClsValsK K ts vs→ClsVals mg ts vs
 | [],[],_=>trivial
 | [],_ :: _,r=>r.elim
 | _ :: _,[],r=>r.elim
 | t :: ts,v :: vs,r=>by
  refine ⟨?_,ClsValsK.at r.2⟩
  rcases r.1 with ⟨C,e,h1⟩ | ⟨e,h1,h2,h3⟩
  ·exact .inl ⟨C,e,PySem.W.mg_of X G h1⟩
  ·exact .inr ⟨e,PySem.W.mg_none_of X G h1,h2,h3⟩
theorem IsxK.at {tt:Bool} {ts:List String} {tab:List (String×Bool)} (r:IsxK K tt ts tab):IsxAt K mg tt ts tab:=by
 obtain ⟨vs,h1,h2⟩:=r
 exact ⟨vs,ClsValsK.at X G h1,h2⟩
end
noncomputable def IniK (K:PySem.W.Frag) (c:String) (ks:List String) (q:Str) (st:Stmt):Prop:=∃ (C fa:Addr) (fd:FuncData),PySem.W.nsIn K mainGlobals (Str.ofString c)=some (some (.ref C))∧excInI K C bmVE "ValueError.__new__" fa=true∧PySem.W.isFn K (.ref fa)=true∧ErrC K C ∧
 Fun K (Str.ofString "__init__") q st fa fd
theorem iniK_mk {K:PySem.W.Frag} {c:String} {ks:List String} {q:Str} {st:Stmt} {C fa:Addr} {oc:Value} {od an:Option Addr} {osl:Array (Option Value)} {kV doc pm cdv ct:Value} (a:PySem.W.nsIn K mainGlobals (Str.ofString c)=some (some (.ref C))) (z:PySem.W.findIn K (.ref C) (Str.ofString "__init__")=some (some (.ref fa)))
  (i:PySem.W.isFn K (.ref fa)=true) (hd:PySem.W.hasDictIn K C=true) (sa:PySem.W.findIn K (.ref C) "__setattr__" = some (some (.builtin "object.__setattr__"))) (ob:PySem.W.mroIn K C (.type "object")=some true)
  (l:K.lookup fa=some ⟨oc,od,.func (PySem.W.fnOf (Str.ofString "__init__") q (defArgs st) (defBody st) (defScope st) .none kV doc pm an cdv ct),osl⟩) (cd:PySem.W.codeIn K cdv q=true) (k:PySem.W.keepIn K (.ref fa)=true)
  (b:excInI K C bmVE "ValueError.__new__" fa=true) (ov:excOver K C=true):IniK K c ks q st:=⟨C,fa,_,a,b,i,⟨ov,ob,hd,sa⟩,fun_mk l cd k⟩
noncomputable def NoAts (K:PySem.W.Frag) (c:String):List String→Prop
 | []=>True
 | f :: fs=>NoAt K c f∧NoAts K c fs
theorem noAts_all {K:PySem.W.Frag} {c:String} {C:Addr} (a:PySem.W.nsIn K mainGlobals (Str.ofString c)=some (some (.ref C))):∀ {ks:List String},NoAts K c ks→∀ y∈ks.map (fun k=>Str.ofString k),NoAttr K C y
 | [],_,y,m=>by simp at m
 | k :: ks,n,y,m=>by
  rw [List.map_cons,List.mem_cons] at m
  rcases m with rfl | m
  ·obtain ⟨C',e,z⟩:=n.1
   rw [a] at e; cases e
   exact z
  ·exact noAts_all a n.2 y m
theorem rsi_at {T:Top} {h:Heap} {k:Nat} {c:String} {k1:String} {ks:List String} {q:Str} {st:Stmt} {sf:Str} (X:T.K.In h) (G:h.Ns mainGlobals T.mg) (D:IniK T.K c (k1 :: ks) q st) (Ns:NoAts T.K c (k1 :: ks))
  (S:FnScope (sf :: (k1 :: ks).map fun k=>Str.ofString k) (sf :: (k1 :: ks).map fun k=>Str.ofString k) (defScope st)) (hm:iniM sf ((k1 :: ks).map fun k=>Str.ofString k) (defBody st)=true) (hd:(sf :: (k1 :: ks).map fun k=>Str.ofString k).all nodbg=true)
  (hbd:∀ (kV doc pm:Value) (an:Option Addr) (cdv ct:Value) (us:List Value),us.length=(sf :: (k1 :: ks).map fun k=>Str.ofString k).length→bindArgs (PySem.W.fnOf (Str.ofString "__init__") q (defArgs st) (defBody st) (defScope st) .none kV doc pm an cdv ct) ⟨us,[]⟩=pure ((sf :: (k1 :: ks).map fun k=>Str.ofString k).zip us))
  (hl:(k1 :: ks).length≤9):FnTop T k (.rsi c (k1 :: ks)) spN:=by
 obtain ⟨C,fa,fd,h1,h2,h3,h4,F⟩:=D
 refine ⟨⟨C,fa,fd,sf,h1,PySem.W.mg_of X G h1,h2,h3,h4,noAts_all h1 Ns,F.binds hbd,by simp,hl,ini_ok F S hm hd (by simp at hl ⊢; omega)⟩,by omega⟩
noncomputable def EflK (K:PySem.W.Frag) (f:String):List String→Prop
 | []=>True
 | c :: cs=>(XCls K c∧NoAt K c f∧∃ C,PySem.W.nsIn K mainGlobals (Str.ofString c)=some (some (.ref C))∧PySem.W.hasDictIn K C=true)∧EflK K f cs
theorem eflK_mk {K:PySem.W.Frag} {c f:String} {C:Addr} (x:XCls K c) (a:PySem.W.nsIn K mainGlobals (Str.ofString c)=some (some (.ref C))) (n:PySem.W.findIn K (.ref C) (Str.ofString f)=some none) (h:PySem.W.hasDictIn K C=true) :
  XCls K c∧NoAt K c f∧∃ C,PySem.W.nsIn K mainGlobals (Str.ofString c)=some (some (.ref C))∧PySem.W.hasDictIn K C=true:=⟨x,⟨C,a,n⟩,C,a,h⟩
theorem EflK.at {K:PySem.W.Frag} {f:String}:∀ {tab:List String},EflK K f tab→EflAt K f tab
 | [],_,c,m=>by simp at m
 | x :: tab,h,c,m=>by
  rcases List.mem_cons.mp m with rfl | m
  ·obtain ⟨⟨C,a1,a2⟩,⟨C',b1,b2⟩,C'',c1,c2⟩:=h.1
   rw [a1] at b1 c1; cases b1; cases c1
   exact ⟨C,a1,a2,b2,c2⟩
  ·exact EflK.at h.2 c m
end DW
end
section
set_option autoImplicit false
namespace DW
open PySem
noncomputable def tags:List (List Nat):=[[],[],[97],[98],[97,98],[98,97],[122],[97,98,99,100,101,102,103,104]]
noncomputable def keyOk (k:Int):Prop:=-(10 ^ 40) < k∧k < 10 ^ 40
noncomputable def ItOk (x:Itm):Prop:=keyOk x.1∧x.2∈tags
noncomputable def isBox (μ:Mem) (n:Nat):Prop:=∃ b:Int,μ[n]? = some (.lst [.int b])
noncomputable def bx (μ:Mem) (n:Nat) (b:Int):Mem:=μ.set n (.lst [.int b])
noncomputable def spL_cell:DSp:=fun ds μ Q=>match ds with
 | [.ro xs,.int k]=>∃ ns:List Int,xs=ns.map D.int∧ns.length < 1000∧0≤k∧∀ c,Q (.int c) μ
 | _=>False
noncomputable def spL_mix:DSp:=fun ds μ Q=>match ds with
 | [.int c,.int k]=>0≤k∧k < 1000∧∀ r,0≤r→r < 142857144→Q (.int r) μ
 | _=>False
noncomputable def spL_box:DSp:=fun ds μ Q=>match ds with
 | [.ro xs,.int k]=>∃ ns:List Int,xs=ns.map D.int∧ns.length < 1000∧0≤k∧∀ b,Q (.loc μ.length) (μ ++ [.lst [.int b]])
 | _=>False
noncomputable def spL_take:DSp:=fun ds μ Q=>match ds with
 | [.loc n,.int m]=>isBox μ n∧0 < m∧m < 2 ^ 500∧∀ d b,0≤d→d < m→Q (.int d) (bx μ n b)
 | _=>False
noncomputable def spL_tag:DSp:=fun ds μ Q=>match ds with
 | [.loc n]=>isBox μ n∧∀ t b,t∈tags→Q (.str t) (bx μ n b)
 | _=>False
noncomputable def spL_key:DSp:=fun ds μ Q=>match ds with
 | [.loc n]=>isBox μ n∧∀ k b,keyOk k→Q (.int k) (bx μ n b)
 | _=>False
noncomputable def spL_row:DSp:=fun ds μ Q=>match ds with
 | [.loc n,.int m]=>isBox μ n∧0≤m∧m < 1000∧∀ (r:List Itm) b,(r.length:Int)≤m→(∀ x∈r,ItOk x)→Q (.lst (r.map itD)) (bx μ n b)
 | _=>False
noncomputable def nL_cell:List Str:=["script","k"]
noncomputable def iL_cell:Ss:=(.cons (.ite (.cmp .Lt (.var 1) (.blt "len" (.cons (.var 0) .nil))) (.cons (.ret (.idx (.var 0) (.var 1))) .nil) .nil) (.cons (.ret (.cst (.int 0))) .nil))
noncomputable def nL_mix:List Str:=["cell","k","some","stir"]
noncomputable def iL_mix:Ss:=(.cons (.set 2 (.lst false (.cons (.cst (.int 48271)) (.cons (.cst (.int 69621)) (.cons (.cst (.int 16807)) (.cons (.cst (.int 39373)) (.cons (.cst (.int 30269)) (.cons (.cst (.int 40014)) (.cons (.cst (.int 40692)) (.cons (.cst (.int 50021)) (.cons (.cst (.int 61687)) (.cons (.cst (.int 71993)) (.cons (.cst (.int 83869)) (.cons (.cst (.int 95561)) (.cons (.cst (.int 30307)) .nil))))))))))))))) (.cons (.set 3 (.bin .Add (.bin .Add (.bin .Mult (.bin .Add (.bin .Mod (.var 0) (.cst (.int 2147483647))) (.cst (.int 12345))) (.idx (.var 2) (.bin .Mod (.var 1) (.cst (.int 13))))) (.bin .Mult (.cst (.int 977)) (.var 1))) (.bin .Mult (.cst (.int 7919)) (.bin .FloorDiv (.var 1) (.cst (.int 13)))))) (.cons (.set 3 (.bin .Mod (.var 3) (.cst (.int 1000000007)))) (.cons (.ret (.bin .FloorDiv (.bin .Mod (.bin .Add (.bin .Mult (.var 3) (.var 3)) (.bin .Mult (.cst (.int 48271)) (.var 1))) (.cst (.int 1000000007))) (.cst (.int 7)))) .nil))))
noncomputable def nL_box:List Str:=["script","k","cell","number","j"]
noncomputable def iL_box:Ss:=(.cons (.set 2 (.call "_law_cell" spL_cell (.cons (.var 0) (.cons (.var 1) .nil)))) (.cons (.ite (.cmp .Eq (.bin .Mod (.var 2) (.cst (.int 2))) (.cst (.int 0))) (.cons (.ret (.lst true (.cons (.bin .FloorDiv (.blt "abs" (.cons (.var 2) .nil)) (.cst (.int 2))) .nil))) .nil) .nil) (.cons (.set 3 (.cst (.int 0))) (.cons (.for_ [4] false (.rng (.cons (.cst (.int 40)) .nil)) (.cons (.set 3 (.bin .Add (.bin .Mult (.var 3) (.cst (.int 142857143))) (.call "_law_mix" spL_mix (.cons (.var 2) (.cons (.var 4) .nil))))) .nil)) (.cons (.ret (.lst true (.cons (.var 3) .nil))) .nil)))))
noncomputable def nL_take:List Str:=["box","many","left","digit"]
noncomputable def iL_take:Ss:=(.cons (.setT [2,3] (.blt "divmod" (.cons (.idx (.var 0) (.cst (.int 0))) (.cons (.var 1) .nil)))) (.cons (.setIx (.var 0) (.cst (.int 0)) (.var 2)) (.cons (.ret (.var 3)) .nil)))
noncomputable def nL_tag:List Str:=["box","some"]
noncomputable def iL_tag:Ss:=(.cons (.set 1 (.lst false (.cons (.cst (.str [])) (.cons (.cst (.str [])) (.cons (.cst (.str [97])) (.cons (.cst (.str [98])) (.cons (.cst (.str [97,98])) (.cons (.cst (.str [98,97])) (.cons (.cst (.str [122])) (.cons (.cst (.str [97,98,99,100,101,102,103,104])) .nil)))))))))) (.cons (.ret (.idx (.var 1) (.call "_law_take" spL_take (.cons (.var 0) (.cons (.cst (.int 8)) .nil))))) .nil))
noncomputable def nL_key:List Str:=["box","way"]
noncomputable def iL_key:Ss:=(.cons (.set 1 (.call "_law_take" spL_take (.cons (.var 0) (.cons (.cst (.int 8)) .nil)))) (.cons (.ite (.cmp .Eq (.var 1) (.cst (.int 7))) (.cons (.ret (.bin .Add (.bin .Sub (.call "_law_take" spL_take (.cons (.var 0) (.cons (.bin .Sub (.bin .Mult (.cst (.int 2)) (.bin .Pow (.cst (.int 10)) (.cst (.int 40)))) (.cst (.int 1))) .nil))) (.bin .Pow (.cst (.int 10)) (.cst (.int 40)))) (.cst (.int 1)))) .nil) .nil) (.cons (.ret (.bin .Sub (.call "_law_take" spL_take (.cons (.var 0) (.cons (.idx (.lst false (.cons (.cst (.int 3)) (.cons (.cst (.int 9)) (.cons (.cst (.int 9)) (.cons (.cst (.int 9)) (.cons (.cst (.int 30)) (.cons (.cst (.int 30)) (.cons (.cst (.int 4)) .nil)))))))) (.var 1)) .nil))) (.idx (.lst false (.cons (.cst (.int 0)) (.cons (.cst (.int 0)) (.cons (.cst (.int 4)) (.cons (.cst (.int 0)) (.cons (.cst (.int 15)) (.cons (.cst (.int 0)) (.cons (.cst (.int 2)) .nil)))))))) (.var 1)))) .nil)))
noncomputable def nL_row:List Str:=["box","most"]
noncomputable def iL_row:Ss:=(.cons (.ret (.comp false 1 false [0] (.tup (.cons (.call "_law_key" spL_key (.cons (.var 1) .nil)) (.cons (.call "_law_tag" spL_tag (.cons (.var 1) .nil)) .nil))) (.rng (.cons (.call "_law_take" spL_take (.cons (.var 0) (.cons (.bin .Add (.var 1) (.cst (.int 1))) .nil))) .nil)) .nil)) .nil)
theorem isBox_bx {μ:Mem} {n:Nat} {b:Int} (h:isBox μ n):isBox (bx μ n b) n:=by
 obtain ⟨c,h⟩:=h
 exact ⟨b,by unfold bx; rw [List.getElem?_set_self (List.getElem?_eq_some_iff.mp h).1]⟩
theorem isBox_new {μ:Mem} {b:Int}:isBox (μ ++ [.lst [.int b]]) μ.length:=⟨b,by simp⟩
theorem bx_bx {μ:Mem} {n:Nat} {b c:Int}:bx (bx μ n b) n c=bx μ n c:=by simp [bx]
theorem kL_cell:Keeps nL_cell iL_cell spL_cell:=by
 intro ds μ Q h
 unfold spL_cell at h
 split at h
 ·obtain ⟨ns,rfl,hl,hk,h⟩:=h
  rename_i k
  simp [iL_cell,nL_cell,startD,topZ,wSs,wS,wT,wE,wEs,wBlt,lenOf,seqOf,wCmp,ltD,wBl]
  by_cases hk2:k < ns.length
  ·have e:ixD ns.length k=some k.toNat:=by simp [ixD,hk,hk2]
   have h2:k.toNat < ns.length:=by omega
   simp [hk2,wIdx,seqOf,e,h2,h]
  ·simp [hk2,h]
 ·exact h.elim
theorem kL_take:Keeps nL_take iL_take spL_take:=by
 intro ds μ Q h
 unfold spL_take at h
 split at h
 ·obtain ⟨⟨b,hb⟩,h0,hm,h⟩:=h
  rename_i n m
  have hc:CDivD m:=⟨h0,hm⟩
  simp [iL_take,nL_take,startD,topZ,wSs,wS,wT,wE,wEs,wIdx,seqOf,hb,ixD,wBlt,hc,bindT,wSetIx]
  exact h _ _ (Int.emod_nonneg _ (by omega)) (Int.emod_lt_of_pos _ h0)
 ·exact h.elim
theorem kL_mix:Keeps nL_mix iL_mix spL_mix:=by
 intro ds μ Q h
 unfold spL_mix at h
 split at h
 ·obtain ⟨h0,hm,h⟩:=h
  rename_i c k
  have e:ixD 13 (k % 13)=some (k % 13).toNat:=by
   have q1:0≤k % 13:=by omega
   have q2:k % 13 < 13:=by omega
   simp [ixD,q1,q2]
  have hr:=h
  have hk13:(k % 13).toNat < 13:=by omega
  have hz:∃ z:Int,([D.int 48271,.int 69621,.int 16807,.int 39373,.int 30269,.int 40014,.int 40692,.int 50021,.int 61687,.int 71993,.int 83869,.int 95561,.int 30307]:List D)[(k % 13).toNat]? = some (.int z)∧0 < z∧z < 100000:=by
   generalize (k % 13).toNat=j at hk13
   match j,hk13 with
   | 0,_=>exact ⟨_,rfl,by decide⟩
   | 1,_=>exact ⟨_,rfl,by decide⟩
   | 2,_=>exact ⟨_,rfl,by decide⟩
   | 3,_=>exact ⟨_,rfl,by decide⟩
   | 4,_=>exact ⟨_,rfl,by decide⟩
   | 5,_=>exact ⟨_,rfl,by decide⟩
   | 6,_=>exact ⟨_,rfl,by decide⟩
   | 7,_=>exact ⟨_,rfl,by decide⟩
   | 8,_=>exact ⟨_,rfl,by decide⟩
   | 9,_=>exact ⟨_,rfl,by decide⟩
   | 10,_=>exact ⟨_,rfl,by decide⟩
   | 11,_=>exact ⟨_,rfl,by decide⟩
   | 12,_=>exact ⟨_,rfl,by decide⟩
  obtain ⟨z,hz,z1,z2⟩:=hz
  simp [iL_mix,nL_mix,startD,topZ,wSs,wS,wT,wE,wEs,wIdx,seqOf,newL,lim,wBin,CDivD,e]
  rw [hz]
  have m1:CMulD (c % 2147483647 + 12345) z:=.inr (by omega)
  have m2:CMulD 977 k:=.inl (by omega)
  have m3:CMulD 7919 (k / 13):=.inl (by omega)
  have m5:CMulD 48271 k:=.inl (by omega)
  simp only [m1,m2,m3,m5,true_and]
  generalize hv:((c % 2147483647 + 12345) * z + 977 * k + 7919 * (k / 13)) % 1000000007=v
  have m4:CMulD v v:=.inl (by omega)
  refine ⟨m4,h _ (by omega) (by omega)⟩
 ·exact h.elim
theorem kL_box:Keeps nL_box iL_box spL_box:=by
 intro ds μ Q h
 unfold spL_box at h
 split at h
 ·obtain ⟨ns,rfl,hl,hk,h⟩:=h
  rename_i k
  simp [iL_box,nL_box,startD,topZ,wSs,wS,wT,wE,wEs,wI,spL_cell]
  refine ⟨ns,rfl,hl,hk,fun c=>?_⟩
  simp [wBin,wCmp,flat,wBl]
  by_cases hc:eqD (.int (c % 2)) (.int 0)=true
  ·simp [hc,wBlt,CDivD,lim,newL,h]
  ·simp only [hc,if_neg,Bool.false_eq_true,not_false_eq_true,wRng,esLen]
   refine ⟨by decide,by decide,?_⟩
   refine wLoop_inv (fun ds ρ μ'=>μ'=μ∧(∀ d∈ds,∃ i:Int,d = .int i∧0≤i∧i < 1000)∧∃ v w,ρ=[some (.ro (ns.map D.int)),some (.int k),some (.int c),some (.int v),w]) ?_ ?_ _ _ _ ⟨rfl,?_,0,none,rfl⟩
   ·rintro d ds ρ μ' N hN ⟨rfl,hd,v,w,rfl⟩
    obtain ⟨i,rfl,i0,i1⟩:=hd d (by simp)
    refine ⟨trivial,?_⟩
    simp [bindT,wBin,CMulD,spL_mix,i0,i1]
    intro r _ _
    exact hN _ _ ⟨rfl,fun d q=>hd d (by simp [q]),_,_,rfl⟩
   ·rintro ρ μ' ⟨rfl,-,v,w,rfl⟩
    refine ⟨trivial,?_⟩
    simp [lim,newL]
    exact h _
   ·intro d hd
    simp only [rangeL,List.mem_map,List.mem_range] at hd
    obtain ⟨j,hj,rfl⟩:=hd
    exact ⟨_,rfl,by omega,by omega⟩
 ·exact h.elim
theorem kL_tag:Keeps nL_tag iL_tag spL_tag:=by
 intro ds μ Q h
 unfold spL_tag at h
 split at h
 ·obtain ⟨hb,h⟩:=h
  rename_i n
  simp [iL_tag,nL_tag,startD,topZ,wSs,wS,wT,wE,wEs,wIdx,seqOf,newL,lim,spL_take,hb]
  intro d b d0 d8
  have e:ixD 8 d=some d.toNat:=by simp [ixD,d0,d8]
  rw [e]
  have hd:d.toNat < 8:=by omega
  simp only [Option.bind_some]
  generalize d.toNat=j at hd
  match j,hd with
  | 0,_=>exact h _ _ (by decide)
  | 1,_=>exact h _ _ (by decide)
  | 2,_=>exact h _ _ (by decide)
  | 3,_=>exact h _ _ (by decide)
  | 4,_=>exact h _ _ (by decide)
  | 5,_=>exact h _ _ (by decide)
  | 6,_=>exact h _ _ (by decide)
  | 7,_=>exact h _ _ (by decide)
 ·exact h.elim
theorem kL_key:Keeps nL_key iL_key spL_key:=by
 intro ds μ Q h
 unfold spL_key at h
 split at h
 ·obtain ⟨hb,h⟩:=h
  rename_i n
  simp [iL_key,nL_key,startD,topZ,wSs,wS,wT,wE,wEs,spL_take,hb,wCmp,flat,wBl]
  intro d b d0 d8
  have hb2:=isBox_bx (b:=b) hb
  by_cases h7:d=7
  ·subst h7
   simp [eqD,wBin,CPowD,CMulD,hb2,bx_bx]
   intro a b' a0 a1
   exact h _ _ ⟨by omega,by omega⟩
  ·have e7:eqD (.int d) (.int 7)=false:=by simp [eqD,h7]
   have e:ixD 7 d=some d.toNat:=by simp [ixD,d0]; omega
   simp [e7,newL,wIdx,seqOf,lim,e]
   have hd:d.toNat < 7:=by omega
   generalize d.toNat=j at hd
   match j,hd with
   | 0,_=>simp [hb2,bx_bx,wBin]; intro a b' a0 a1; exact h _ _ ⟨by omega,by omega⟩
   | 1,_=>simp [hb2,bx_bx,wBin]; intro a b' a0 a1; exact h _ _ ⟨by omega,by omega⟩
   | 2,_=>simp [hb2,bx_bx,wBin]; intro a b' a0 a1; exact h _ _ ⟨by omega,by omega⟩
   | 3,_=>simp [hb2,bx_bx,wBin]; intro a b' a0 a1; exact h _ _ ⟨by omega,by omega⟩
   | 4,_=>simp [hb2,bx_bx,wBin]; intro a b' a0 a1; exact h _ _ ⟨by omega,by omega⟩
   | 5,_=>simp [hb2,bx_bx,wBin]; intro a b' a0 a1; exact h _ _ ⟨by omega,by omega⟩
   | 6,_=>simp [hb2,bx_bx,wBin]; intro a b' a0 a1; exact h _ _ ⟨by omega,by omega⟩
 ·exact h.elim
theorem kL_row:Keeps nL_row iL_row spL_row:=by
 intro ds μ Q h
 unfold spL_row at h
 split at h
 ·obtain ⟨hb,m0,m1,h⟩:=h
  rename_i n m
  simp [iL_row,nL_row,startD,topZ,wSs,wS,wE,wEs,wI,wTs,wBin,spL_take,hb,wRng,esLen]
  refine ⟨by omega,by omega,fun d b d0 d1=>⟨by simp only [lim]; omega,by omega,?_⟩⟩
  refine wComp_inv (fun ds acc μ'=>∃ (r:List Itm) (b:Int),acc=r.map itD∧μ'=bx μ n b∧(∀ x∈r,ItOk x)∧((r.length + ds.length:Nat):Int)≤m) ?_ ?_ _ _ _ ⟨[],b,rfl,rfl,by simp,?_⟩
  ·rintro d ds acc μ' Y N hY hN ⟨r,b,rfl,rfl,hr,hl⟩
   have hb2:=isBox_bx (b:=b) hb
   simp [bindC,spL_key,spL_tag,hb2]
   intro k b2 hk
   simp only [bx_bx]
   refine ⟨isBox_bx hb,fun t b3 ht=>⟨by decide,hY _ _ ⟨r ++ [(k,t)],b3,by simp [itD],rfl,?_,?_⟩⟩⟩
   ·intro x hx
    simp at hx
    rcases hx with hx | rfl
    ·exact hr x hx
    ·exact ⟨hk,ht⟩
   ·simp at hl ⊢; omega
  ·rintro acc μ' ⟨r,b,rfl,rfl,hr,hl⟩
   refine ⟨trivial,?_⟩
   simp [newL]
   exact h _ _ (by simp at hl; omega) hr
  ·simp [rangeL]; omega
 ·exact h.elim
end DW
end
section
set_option autoImplicit false
namespace DW
open PySem
noncomputable def ga (r:List Itm) (p:Nat):Nat:=match r[p]? with | some x=>((r.take p).filter fun y=>lt2 x y).length | none=>0
noncomputable def gas (r:List Itm):List Int:=(List.range r.length).map fun p=>(ga r p:Int)
noncomputable def mx:List Int→Int
 | []=>0
 | i :: is=>is.foldl max i
noncomputable def dicB (μ:Mem) (n:Nat):Bool:=match μ[n]? with | some (.dic _ _)=>true | _=>false
theorem dic_at {μ:Mem} {n:Nat} (h:dicB μ n=true):∃ ks ds,μ[n]? = some (.dic ks ds):=by
 unfold dicB at h
 split at h
 ·rename_i ks ds e; exact ⟨ks,ds,e⟩
 ·cases h
theorem dic_ty {μ:Mem} {n:Nat} (h:dicB μ n=true):tyOf μ (.loc n)=some "dict":=by
 unfold dicB at h
 simp only [tyOf]
 split at h
 ·rename_i e; rw [e]
 ·cases h
noncomputable def spL_whole:DSp:=fun ds μ Q=>match ds with
 | [.int _]=>Q (.bl true) μ
 | [.loc n]=>dicB μ n=true∧Q (.bl false) μ
 | [.ro _]=>False
 | [.fdc _ _]=>False
 | [_]=>Q (.bl false) μ
 | _=>False
noncomputable def nL_whole:List Str:=["thing"]
noncomputable def iL_whole:Ss:=(.cons (.ret (.and (.isin (.var 0) "int") (.not (.isin (.var 0) "bool")))) .nil)
theorem kL_whole:Keeps nL_whole iL_whole spL_whole:=by
 intro ds μ Q h
 unfold spL_whole at h
 split at h
 ·simpa [iL_whole,nL_whole,startD,topZ,wSs,wS,wE,wIsin,tyOf,isTy,wBl] using h
 ·simpa [iL_whole,nL_whole,startD,topZ,wSs,wS,wE,wIsin,dic_ty h.1,isTy,wBl] using h.2
 ·exact h.elim
 ·exact h.elim
 ·rename_i d h1 h2 h3 h4
  cases d with
  | int i=>exact absurd rfl (h1 i)
  | loc i=>exact absurd rfl (h2 i)
  | ro i=>exact absurd rfl (h3 i)
  | fdc i j=>exact absurd rfl (h4 i j)
  | _=>simpa [iL_whole,nL_whole,startD,topZ,wSs,wS,wE,wIsin,tyOf,isTy,wBl] using h
 ·exact h.elim
theorem gas_nn (r:List Itm):∀ i∈gas r,0≤i:=by
 intro i hi
 simp [gas] at hi
 obtain ⟨p,_,rfl⟩:=hi
 omega
end DW
end
section
set_option autoImplicit false
namespace DW
end DW
end
section
set_option autoImplicit false
namespace DW
noncomputable def cnt (A:List Itm) (x:Itm):Nat:=(A.filter (lt2 x)).length
noncomputable def gf:List Itm→List Itm→List Int
 | _,[]=>[]
 | A,x :: l=>(cnt A x:Int) :: gf (A ++ [x]) l
theorem gf_eq:∀ (l A:List Itm),gf A l=(List.range l.length).map fun p=>(ga (A ++ l) (A.length + p):Int)
 | [],A=>rfl
 | x :: l,A=>by
  have h:=gf_eq l (A ++ [x])
  rw [gf,h,List.length_cons,List.range_succ_eq_map,List.map_cons,List.map_map]
  congr 1
  ·simp [ga,cnt]
  ·refine List.map_congr_left fun p _=>?_
   simp [Nat.add_assoc,Nat.add_comm 1 p]
theorem gas_gf (r:List Itm):gas r=gf [] r:=by
 rw [gf_eq]
 simp [gas]
noncomputable def mxr (l:List Int):Int:=l.foldr max 0
theorem mxr_nn:∀ l:List Int,0≤mxr l
 | []=>Int.le_refl _
 | i :: l=>by have:=mxr_nn l; show 0≤max i (mxr l); omega
theorem mxr_append:∀ a b:List Int,mxr (a ++ b)=max (mxr a) (mxr b)
 | [],b=>by have:=mxr_nn b; show mxr b=max 0 (mxr b); omega
 | i :: a,b=>by
  show max i (mxr (a ++ b))=max (max i (mxr a)) (mxr b)
  rw [mxr_append a b]; omega
theorem foldl_mx:∀ (l:List Int) (i:Int),0≤i→l.foldl max i=max i (mxr l)
 | [],i,h=>by show i=max i 0; omega
 | j :: l,i,h=>by
  rw [List.foldl_cons,foldl_mx l (max i j) (by omega)]
  show max (max i j) (mxr l)=max i (max j (mxr l)); omega
theorem mx_eq (l:List Int) (h:∀ i∈l,0≤i):mx l=mxr l:=by
 cases l with
 | nil=>rfl
 | cons i l=>exact foldl_mx l i (h i (by simp))
theorem mx_gas (r:List Itm):mx (gas r)=mxr (gf [] r):=by rw [mx_eq _ (gas_nn r),gas_gf]
theorem cnt_perm {A B:List Itm} (p:A.Perm B) (x:Itm):cnt A x=cnt B x:=(p.filter _).length_eq
theorem cnt_snoc (A:List Itm) (x y:Itm):cnt (A ++ [x]) y=cnt A y + if lt2 y x=true then 1 else 0:=by
 unfold cnt
 rw [List.filter_append,List.length_append]
 by_cases h:lt2 y x=true
 ·simp [h]
 ·simp [h]
theorem gf_perm:∀ (l:List Itm) {A B:List Itm},A.Perm B→gf A l=gf B l
 | [],A,B,_=>rfl
 | x :: l,A,B,p=>by rw [gf,gf,cnt_perm p,gf_perm l (p.append_right [x])]
theorem gf_append:∀ (B A C:List Itm),gf A (B ++ C)=gf A B ++ gf (A ++ B) C
 | [],A,C=>by simp [gf]
 | x :: B,A,C=>by simp [gf,gf_append B (A ++ [x]) C]
theorem cnt_le {x y:Itm} (h:lt2 x y=true):∀ A:List Itm,cnt A y≤cnt A x
 | []=>Nat.le_refl _
 | z :: A=>by
  have ih:=cnt_le h A
  unfold cnt at ih ⊢
  by_cases q:lt2 y z=true
  ·have q2:lt2 x z=true:=by
    cases q3:lt2 x z with
    | true=>rfl
    | false =>
     have:=lt2_trans z x y q3 (lt2_asym _ _ h)
     rw [q] at this; cases this
   rw [List.filter_cons_of_pos q,List.filter_cons_of_pos q2,List.length_cons,List.length_cons]
   omega
  ·rw [List.filter_cons_of_neg q]
   by_cases q2:lt2 x z=true
   ·rw [List.filter_cons_of_pos q2,List.length_cons]; omega
   ·rw [List.filter_cons_of_neg q2]; exact ih
theorem exchanged (A B:List Itm) (x y:Itm) (h:lt2 x y=true) :
  (gas (A ++ y :: x :: B)).sum=(gas (A ++ x :: y :: B)).sum + 1∧mx (gas (A ++ x :: y :: B))≤mx (gas (A ++ y :: x :: B))∧mx (gas (A ++ y :: x :: B)) - 1≤mx (gas (A ++ x :: y :: B))∧1≤mx (gas (A ++ y :: x :: B))∧1≤(gas (A ++ y :: x :: B)).sum:=by
 have e:gf (A ++ [y] ++ [x]) B=gf (A ++ [x] ++ [y]) B:=gf_perm B (by
  simp only [List.append_assoc]
  exact List.Perm.append_left A (List.Perm.swap x y []))
 have c1:cnt (A ++ [y]) x=cnt A x + 1:=by rw [cnt_snoc,if_pos h]
 have c2:cnt (A ++ [x]) y=cnt A y:=by rw [cnt_snoc,if_neg (by rw [lt2_asym _ _ h]; simp)]; rfl
 have c3:=cnt_le h A
 have nn:∀ l A,(0:Int)≤(gf A l).sum:=by
  intro l
  induction l with
  | nil=>intro A; exact Int.le_refl _
  | cons z l ih=>intro A; have:=ih (A ++ [z]); rw [gf,List.sum_cons]; omega
 have n1:=nn A []
 have n2:=nn B (A ++ [x] ++ [y])
 rw [mx_gas,mx_gas]
 simp only [gas_gf,gf_append,gf,List.nil_append,c1,c2,e,List.sum_append,List.sum_cons,mxr_append]
 have m1:=mxr_nn (gf [] A)
 have m2:=mxr_nn (gf (A ++ [x] ++ [y]) B)
 simp only [mxr,List.foldr_cons] at m1 m2 ⊢
 omega
end DW
end
section
set_option autoImplicit false
namespace DW
open PySem
end DW
end
section
set_option autoImplicit false
namespace DW.K03
open PySem DW
mutual
theorem eqD_self:∀ (n:Nat) (d:D),flat n d=true→eqD d d=true
 | n,.non,_=>rfl
 | n,.bl b,_=>by simp [eqD]
 | n,.int i,_=>by simp [eqD]
 | n,.str x,_=>by simp [eqD]
 | 0,.tup ds,h=>by simp [flat] at h
 | n + 1,.tup ds,h=>by rw [eqD]; exact eqDs_self n ds (by simpa [flat] using h)
 | 0,.lst ds,h=>by simp [flat] at h
 | n + 1,.lst ds,h=>by rw [eqD]; exact eqDs_self n ds (by simpa [flat] using h)
 | n,.ro ds,h=>by simp [flat] at h
 | n,.loc ds,h=>by simp [flat] at h
 | n,.dic ks ds,h=>by simp [flat] at h
theorem eqDs_self:∀ (n:Nat) (ds:List D),flats n ds=true→eqDs ds ds=true
 | n,[],_=>rfl
 | n,d :: ds,h=>by
  simp only [flats,Bool.and_eq_true] at h
  simp [eqDs,eqD_self n d h.1,eqDs_self n ds h.2]
end
end DW.K03
end
section
set_option autoImplicit false
namespace DW
open PySem DW.K03
mutual
noncomputable def good (μ:Mem):D→Bool
 | .str x=>x.all (· < 1114112)
 | .tup ds=>goods μ ds
 | .lst ds=>goods μ ds
 | .dic _ _=>false
 | .loc n=>dicB μ n
 | .ro _=>false
 | .fdc _ _=>false
 | _=>true
noncomputable def goods (μ:Mem):List D→Bool
 | []=>true
 | d :: ds=>good μ d && goods μ ds
end
noncomputable def letter (c:Nat):Bool:=decide (97≤c) && decide (c≤122)
noncomputable def isItemD:D→Bool
 | .tup ds=>match ds with
  | [.int _,.str t]=>decide (t.length < 9) && t.all letter
  | _=>false
 | _=>false
noncomputable def spL_is_item:DSp:=fun ds μ Q=>∃ d,ds=[d]∧good μ d=true∧Q (.bl (isItemD d)) μ
noncomputable def nL_is_item:List Str:=["thing"]
noncomputable def iL_is_item:Ss:=(.cons (.ite (.or (.not (.isin (.var 0) "tuple")) (.or (.cmp .NotEq (.blt "len" (.cons (.var 0) .nil)) (.cst (.int 2))) (.or (.not (.call "_law_whole" spL_whole (.cons (.idx (.var 0) (.cst (.int 0))) .nil))) (.not (.isin (.idx (.var 0) (.cst (.int 1))) "str"))))) (.cons (.ret (.cst (.bl false))) .nil) .nil) (.cons (.ret (.and (.cmp .Lt (.blt "len" (.cons (.idx (.var 0) (.cst (.int 1))) .nil)) (.cst (.int 9))) (.cmp .Eq (.comp false 1 false [] (.var 0) (.seq (.idx (.var 0) (.cst (.int 1)))) (.cons (.cmp .NotIn (.var 0) (.cst (.str [97,98,99,100,101,102,103,104,105,106,107,108,109,110,111,112,113,114,115,116,117,118,119,120,121,122]))) .nil)) (.lst false .nil)))) .nil))
noncomputable def nL_is_list:List Str:=["found","due","one","other"]
noncomputable def iL_is_list:Ss:=(.cons (.ite (.or (.not (.isin (.var 0) "list")) (.cmp .NotEq (.blt "len" (.cons (.var 0) .nil)) (.blt "len" (.cons (.var 1) .nil)))) (.cons (.ret (.cst (.bl false))) .nil) .nil) (.cons (.for_ [2,3] true (.zip (.var 0) (.var 1)) (.cons (.ite (.or (.not (.call "_law_is_item" spL_is_item (.cons (.var 2) .nil))) (.cmp .NotEq (.var 2) (.var 3))) (.cons (.ret (.cst (.bl false))) .nil) .nil) .nil)) (.cons (.ret (.cst (.bl true))) .nil)))
theorem contains_out {c n:Nat} (hc:n≤c):∀ l:List Nat,(∀ x∈l,x < n)→l.contains c=false
 | [],_=>rfl
 | x :: l,h=>by
  have h1:=h x (by simp)
  rw [List.contains_cons,contains_out hc l fun y hy=>h y (by simp [hy])]
  simp; omega
theorem abc_has (c:Nat):([97,98,99,100,101,102,103,104,105,106,107,108,109,110,111,112,113,114,115,116,117,118,119,120,121,122]:List Nat).contains c=letter c:=by
 by_cases h:c < 123
 ·have:∀ c < 123,([97,98,99,100,101,102,103,104,105,106,107,108,109,110,111,112,113,114,115,116,117,118,119,120,121,122]:List Nat).contains c=letter c:=by decide +kernel
  exact this c h
 ·rw [contains_out (n:=123) (by omega) _ (by decide +kernel)]
  simp [letter]; omega
theorem flats_chars:∀ (t:List Nat) (p:Nat→Bool),t.all (· < 1114112)=true→flats 59 ((t.filter p).map fun c=>D.str [c])=true
 | [],_,_=>rfl
 | c :: t,p,h=>by
  simp only [List.all_cons,Bool.and_eq_true] at h
  have ih:=flats_chars t p h.2
  by_cases q:p c=true
  ·rw [List.filter_cons_of_pos q,List.map_cons,flats,ih]
   have hc:c < 1114112:=by simpa using h.1
   simp [flat,hc]
  ·rw [List.filter_cons_of_neg q]; exact ih
theorem kL_is_item:Keeps nL_is_item iL_is_item spL_is_item:=by
 rintro ds μ Q ⟨d,rfl,hg,h⟩
 simp only [iL_is_item,nL_is_item,startD,topZ,wSs,wS,wT,wE,wEs,List.map_cons,List.map_nil,List.length_cons,List.length_nil,List.cons_append,List.nil_append,List.getElem?_cons_zero]
 cases d with
 | tup ds =>
  match ds,hg,h with
  | [],hg,h=>simpa [wIsin,tyOf,isTy,wBl,wBlt,lenOf,seqOf,wCmp,flat,eqD,isItemD] using h
  | [a],hg,h =>
   have:isItemD (.tup [a])=false:=by cases a <;> rfl
   rw [this] at h
   simpa [wIsin,tyOf,isTy,wBl,wBlt,lenOf,seqOf,wCmp,flat,eqD] using h
  | a :: b :: c :: r,hg,h =>
   have:isItemD (.tup (a :: b :: c :: r))=false:=by cases a <;> cases b <;> rfl
   rw [this] at h
   have e:((r.length:Int) + 1 + 1 + 1 == 2)=false:=by simp; omega
   simpa [wIsin,tyOf,isTy,wBl,wBlt,lenOf,seqOf,wCmp,flat,eqD,e] using h
  | [a,b],hg,h =>
   simp only [good,goods,Bool.and_eq_true] at hg
   simp [wIsin,tyOf,isTy,wBl,wBlt,lenOf,seqOf,wCmp,flat,eqD,wIdx,ixD]
   have hint:(∃ i,a = .int i)∨((∀ i,a≠.int i)∧∀ Q:QD,Q (.bl false) μ→spL_whole [a] μ Q):=by
    cases a with
    | int i=>exact .inl ⟨i,rfl⟩
    | loc i=>right; refine ⟨by simp,fun Q q=>?_⟩; simp only [good] at hg; exact ⟨hg.1,q⟩
    | ro i=>simp [good] at hg
    | fdc i j=>simp [good] at hg
    | dic i j=>simp [good] at hg
    | _=>right; exact ⟨by simp,fun Q q=>q⟩
   rcases hint with ⟨i,rfl⟩ | hw
   ·simp only [spL_whole,wTru,truth,Bool.not_true,Bool.false_eq_true,if_false]
    cases b with
    | str t =>
     have ht:t.all (· < 1114112)=true:=by simpa [good] using hg.2.1
     have e:isItemD (.tup [.int i,.str t])=(decide (t.length < 9) && t.all letter):=rfl
     rw [e] at h
     simp only [wIsin,tyOf,isTy,wBl,lenOf,ltD,wSeq,wI,wE,wTs,wT,List.getElem?_cons_zero,chars,wCmp,wIdx,seqOf,ixD]
     by_cases h9:t.length < 9
     ·have h9':(t.length:Int) < 9:=by omega
      simp [h9',wI,wE,wIdx,ixD,seqOf,wSeq,chars]
      rw [decide_eq_true h9,Bool.true_and] at h
      refine wComp_mapL _ (fun c=>!letter c) (fun c=>D.str [c]) trivial _ _ ?_ ?_
      ·intro c _ Y N q
       simp only [bindC,wTs,wT,wE,List.map_nil,List.getElem?_cons_zero,wCmp,wBl,abc_has]
       have eb:∀ b:Bool,b=(!letter c)→(if b=true then Y (D.str [c]) μ else N μ):=fun b hb=>by rw [hb]; exact q
       refine eb _ ?_
       rw [← abc_has c]
       simp
      ·have hf:=flats_chars t (fun c=>!letter c) ht
       have e2:flat 60 (.lst ((t.filter fun c=>!letter c).map fun c=>D.str [c]))=true:=by rw [flat]; exact hf
       simp only [List.nil_append,newL,lim,Nat.zero_le,true_and,e2]
       refine ⟨rfl,?_⟩
       have e3:eqD (.lst ((t.filter fun c=>!letter c).map fun c=>D.str [c])) (.lst [])=t.all letter:=by
        simp only [eqD]
        cases q:t.filter fun c=>!letter c with
        | nil =>
         rw [List.filter_eq_nil_iff] at q
         have:t.all letter=true:=by
          rw [List.all_eq_true]
          intro c hc
          simpa using q c hc
         rw [this]; rfl
        | cons c r =>
         have hc:c∈t.filter fun c=>!letter c:=by rw [q]; simp
         have hc2:=List.mem_filter.mp hc
         have:t.all letter=false:=by
          rw [List.all_eq_false]
          exact ⟨c,hc2.1,by simpa using hc2.2⟩
         rw [this]; rfl
       rw [e3]
       exact h
     ·have h9':¬ (t.length:Int) < 9:=by omega
      rw [decide_eq_false h9] at h
      simpa [h9'] using h
    | loc n =>
     simp only [good] at hg
     obtain ⟨ks,es,e9⟩:=dic_at hg.2.1
     simpa [wIsin,e9,tyOf,isTy,wBl,isItemD,wIdx,ixD,seqOf] using h
    | ro n=>simp [good] at hg
    | fdc n m=>simp [good] at hg
    | dic n m=>simp [good] at hg
    | _=>simpa [wIsin,tyOf,isTy,wBl,isItemD,wIdx,ixD,seqOf] using h
   ·obtain ⟨hni,hw⟩:=hw
    have e:isItemD (.tup [a,b])=false:=by
     cases a <;> first | rfl | exact absurd rfl (hni _)
    rw [e] at h
    exact hw _ (by simpa [wTru,truth] using h)
 | loc n =>
  simp only [good] at hg
  simpa [wIsin,dic_ty hg,isTy,wBl,isItemD] using h
 | ro n=>simp [good] at hg
 | fdc n m=>simp [good] at hg
 | dic n m=>simp [good] at hg
 | _=>simpa [wIsin,tyOf,isTy,wBl,isItemD] using h
theorem zipD_same {α:Type} (f g:α→D):∀ l:List α,zipD (l.map f) (l.map g)=l.map fun x=>.tup [f x,g x]
 | []=>rfl
 | x :: l=>by simp [zipD,zipD_same f g l]
end DW
end
section
set_option autoImplicit false
namespace DW
open PySem
noncomputable def isTagD:D→Bool
 | .str t=>decide (t.length≤8) && t.all letter
 | _=>false
noncomputable def sp_is_tag:DSp:=fun ds μ Q=>∃ d,ds=[d]∧good μ d=true∧Q (.bl (isTagD d)) μ
noncomputable def odds (m:Nat):List D:=[.non,.bl true,.bl false,.int (-1),.str [49],.str [],.str [97,98],.tup [],.lst [],.tup [.int 1],.lst [.int 1],.loc m,.tup [.int 0,.int 1],.int (10 ^ 39),.lst [.str [97]],.tup [.tup [.int 1,.str [97]]]]
noncomputable def spL_odd:DSp:=fun ds μ Q=>match ds with
 | [.loc n]=>isBox μ n∧∀ o b,o∈odds μ.length→Q o (bx (μ ++ [.dic [.inr [97]] [.int 1]]) n b)
 | _=>False
noncomputable def n_is_tag:List Str:=["thing"]
noncomputable def i_is_tag:Ss:=(.cons (.ite (.or (.not (.isin (.var 0) "str")) (.cmp .Gt (.blt "len" (.cons (.var 0) .nil)) (.gbl "MOST_LETTERS" (.int 8)))) (.cons (.ret (.cst (.bl false))) .nil) .nil) (.cons (.ret (.blt "all" (.cons (.comp false 1 false [] (.chain .LtE .LtE (.cst (.str [97])) (.var 0) (.cst (.str [122]))) (.seq (.var 0)) .nil) .nil))) .nil))
noncomputable def nL_odd:List Str:=["box","some"]
noncomputable def iL_odd:Ss:=(.cons (.set 1 (.lst false (.cons (.cst .non) (.cons (.cst (.bl true)) (.cons (.cst (.bl false)) (.cons (.neg (.cst (.int 1))) (.cons (.cst (.str [49])) (.cons (.cst (.str [])) (.cons (.cst (.str [97,98])) (.cons (.tup .nil) (.cons (.lst false .nil) (.cons (.tup (.cons (.cst (.int 1)) .nil)) (.cons (.lst false (.cons (.cst (.int 1)) .nil)) (.cons (.dsp [.inr [97]] (.cons (.cst (.int 1)) .nil)) (.cons (.tup (.cons (.cst (.int 0)) (.cons (.cst (.int 1)) .nil))) (.cons (.bin .Pow (.cst (.int 10)) (.cst (.int 39))) (.cons (.lst false (.cons (.cst (.str [97])) .nil)) (.cons (.tup (.cons (.tup (.cons (.cst (.int 1)) (.cons (.cst (.str [97])) .nil))) .nil)) .nil)))))))))))))))))) (.cons (.ret (.idx (.var 1) (.call "_law_take" spL_take (.cons (.var 0) (.cons (.cst (.int 16)) .nil))))) .nil))
theorem k_is_tag:Keeps n_is_tag i_is_tag sp_is_tag:=by
 rintro ds μ Q ⟨d,rfl,hg,h⟩
 simp only [i_is_tag,n_is_tag,startD,topZ,wSs,wS,wT,wE,wEs,wI,wTs,List.map_cons,List.map_nil,List.length_cons,List.length_nil,List.cons_append,List.nil_append,List.getElem?_cons_zero]
 cases d with
 | str t =>
  have ht:t.all (· < 1114112)=true:=by simpa [good] using hg
  simp only [wIsin,tyOf,isTy,wBl,wBlt,lenOf,wCmp,isTagD] at h ⊢
  simp
  by_cases h8:t.length≤8
  ·have h8':¬ (8 < t.length):=by omega
   have h8'':¬ (8:Int) < t.length:=by omega
   rw [decide_eq_true h8,Bool.true_and] at h
   simp [h8',h8'']
   simp only [wSeq,chars]
   refine wComp_mapT _ (fun c=>D.bl (letter c)) trivial _ _ ?_ ?_
   ·intro c _ Y N q
    have e1:(!ltCs [c] [97])=decide (97≤c):=by
     have z:ltCs [c] [97]=decide (c < 97):=by
      simp only [ltCs]
      by_cases e:c=97
      ·subst e; decide
      ·rw [if_neg e]
     rw [z]
     by_cases q:c < 97
     ·have:¬ 97≤c:=by omega
      simp [q]
     ·have:97≤c:=by omega
      simp [q,this]
    have e2:(!ltCs [122] [c])=decide (c≤122):=by
     have z:ltCs [122] [c]=decide (122 < c):=by
      simp only [ltCs]
      by_cases e:122=c
      ·subst e; decide
      ·rw [if_neg e]
     rw [z]
     by_cases q:122 < c
     ·have:¬ c≤122:=by omega
      simp [q]
     ·have:c≤122:=by omega
      simp [q,this]
    simp only [bindC,if_true,List.getElem?_cons_zero,e1,e2]
    have e3:ltCs [c] [97] = !decide (97≤c):=by rw [← e1]; simp
    rw [e3]
    by_cases q1:97≤c
    ·simp [q1]
     simpa [letter,q1] using q
    ·simp [q1]
     simpa [letter,q1] using q
   ·have ea:∀ l:List Nat,allB (l.map fun c=>D.bl (letter c))=some (l.all letter):=by
     intro l
     induction l with
     | nil=>rfl
     | cons c l ih=>simp [allB,ih]
    simp [newL,lstOf,seqOf,ea]
    exact h
  ·have h8':8 < t.length:=by omega
   have h8'':(8:Int) < t.length:=by omega
   rw [decide_eq_false h8] at h
   simpa [h8',h8''] using h
 | loc n =>
  simp only [good] at hg
  simpa [wIsin,dic_ty hg,isTy,wBl,isTagD] using h
 | ro n=>simp [good] at hg
 | fdc n m=>simp [good] at hg
 | dic n m=>simp [good] at hg
 | _=>simpa [wIsin,tyOf,isTy,wBl,isTagD] using h
theorem at_mem {l:List D} {i:Nat} (h:i < l.length):∃ d,l[i]? = some d∧d∈l:=⟨l[i],List.getElem?_eq_getElem h,List.getElem_mem h⟩
theorem kL_odd:Keeps nL_odd iL_odd spL_odd:=by
 intro ds μ Q h
 unfold spL_odd at h
 split at h
 ·obtain ⟨hb,h⟩:=h
  rename_i n
  simp [iL_odd,nL_odd,startD,topZ,wSs,wS,wT,wE,wEs,wBin,CPowD,newL,lim]
  have hb2:isBox (μ ++ [.dic [.inr [97]] [.int 1]]) n:=by
   obtain ⟨b,e⟩:=hb
   exact ⟨b,by rw [List.getElem?_append_left (List.getElem?_eq_some_iff.mp e).1]; exact e⟩
  refine ⟨hb2,by decide,by decide,fun d b d0 d1=>?_⟩
  have hd:d.toNat < (odds μ.length).length:=by simp [odds]; omega
  obtain ⟨o,e1,e2⟩:=at_mem hd
  have e3:ixD 16 d=some d.toNat:=ixD_lt d0 d1
  have e4:wIdx (.lst (odds μ.length)) (.int d) (bx (μ ++ [.dic [.inr [97]] [.int 1]]) n b) Q:=by
   simp only [wIdx,seqOf]
   rw [show (odds μ.length).length=16 from rfl,e3]
   simp only [Option.bind_some,e1]
   exact h o b e2
  exact e4
 ·exact h.elim
end DW
end
section
set_option autoImplicit false
namespace DW
open PySem DW.K03
theorem bx_len {μ:Mem} {n:Nat} {b:Int}:(bx μ n b).length=μ.length:=by simp [bx]
end DW
end
section
set_option autoImplicit false
namespace DW
open PySem
theorem wNe_of {x y:D} {μ:Mem} {Q:QD} (h1:flat 60 x=true) (h2:flat 60 y=true) (h:Q (.bl (!eqD x y)) μ):wCmp .NotEq x y μ Q:=by
 unfold wCmp
 cases x with
 | loc n=>simp [flat] at h1
 | _=>exact ⟨h1,h2,h⟩
end DW
end
section
set_option autoImplicit false
namespace DW
open PySem
theorem wLoop_pre {α:Type} {bnd:D→Rho→(Rho→Prop)→Prop} {bw:DEnds→Rho→Mem→Prop} {g:Mem→Prop} {Z:DEnds} (c:α→D) (l:List α) (I:List α→Rho→Mem→Prop)
  (hs:∀ pre x post,l=pre ++ x :: post→∀ ρ μ N,(∀ ρ μ,I (pre ++ [x]) ρ μ→N ρ μ)→I pre ρ μ→g μ∧bnd (c x) ρ fun ρ'=>bw { Z with nx:=N,ct:=N,bk:=Z.nx } ρ' μ)
  (he:∀ ρ μ,I l ρ μ→g μ∧Z.nx ρ μ) (ρ:Rho) (μ:Mem) (h0:I [] ρ μ):wLoop bnd bw g Z (l.map c) ρ μ:=by
 refine wLoop_inv (fun ds ρ μ=>∃ pre post,l=pre ++ post∧ds=post.map c∧I pre ρ μ) ?_ ?_ _ _ _ ⟨[],l,rfl,rfl,h0⟩
 ·rintro d ds ρ μ N hN ⟨pre,post,e1,e2,h⟩
  cases post with
  | nil=>simp at e2
  | cons x post =>
   simp only [List.map_cons,List.cons.injEq] at e2
   obtain ⟨rfl,rfl⟩:=e2
   exact hs pre x post e1 ρ μ N (fun ρ μ q=>hN ρ μ ⟨pre ++ [x],post,by rw [e1]; simp,rfl,q⟩) h
 ·rintro ρ μ ⟨pre,post,e1,e2,h⟩
  have:post=[]:=by simpa using e2.symm
  subst this
  have:l=pre:=by simpa using e1
  exact he ρ μ (this ▸ h)
end DW
end
section
set_option autoImplicit false
namespace DW
open PySem
noncomputable def dg (m:Nat):List Nat:=(Nat.toDigits 10 m).map Char.toNat
theorem dg_all {m c:Nat} (h:c∈dg m):48≤c∧c≤57:=by
 obtain ⟨ch,hch,e⟩:=List.mem_map.mp h
 have r:=Nat.isDigit_of_mem_toDigits (b:=10) (by decide) (by decide) hch
 have:48≤ch.toNat∧ch.toNat≤57:=by
  simp only [Char.isDigit,Bool.and_eq_true,decide_eq_true_eq] at r
  exact ⟨r.1,r.2⟩
 omega
theorem dg_ne (m:Nat):dg m≠[]:=fun e=>Nat.toDigits_ne_nil (List.map_eq_nil_iff.mp e)
theorem dg_len {m:Nat} (h:m < 10 ^ 40):(dg m).length≤40:=by
 unfold dg
 rw [List.length_map]
 exact (Nat.length_toDigits_le_iff (by decide) (by decide)).mpr h
theorem decS_nat (m:Nat):decS (m:Int)=dg m:=PySem.W.KIN.signs_num m
theorem decS_neg (m:Nat):decS (-((m + 1:Nat):Int))=45 :: dg (m + 1):=by
 unfold decS dg
 have e:toString (-((m + 1:Nat):Int)) = "-" ++ Nat.repr (m + 1):=rfl
 rw [e,Str.ofString_eq_toList]
 simp [Nat.toList_repr]
theorem dec_cases (k:Int):(∃ m:Nat,k=m∧decS k=dg m)∨∃ m:Nat,k = -((m + 1:Nat):Int)∧decS k=45 :: dg (m + 1):=by
 by_cases h:0≤k
 ·obtain ⟨m,rfl⟩:=Int.eq_ofNat_of_zero_le h
  exact .inl ⟨m,rfl,decS_nat m⟩
 ·refine .inr ⟨(-k).toNat - 1,by omega,?_⟩
  have:k = -(((-k).toNat - 1 + 1:Nat):Int):=by omega
  conv=>lhs; rw [this]
  exact decS_neg _
theorem dec_sign {k:Int} {c:Nat} (h:c∈decS k):c=45∨(48≤c∧c≤57):=by
 rcases dec_cases k with ⟨m,_,e⟩ | ⟨m,_,e⟩ <;> rw [e] at h
 ·exact .inr (dg_all h)
 ·rcases List.mem_cons.mp h with h | h
  ·exact .inl h
  ·exact .inr (dg_all h)
theorem dec_ne (k:Int):decS k≠[]:=by
 rcases dec_cases k with ⟨m,_,e⟩ | ⟨m,_,e⟩ <;> rw [e]
 ·exact dg_ne m
 ·simp
theorem dec_len {k:Int} (h1 : -(10 ^ 40) < k) (h2:k < 10 ^ 40):(decS k).length≤41:=by
 rcases dec_cases k with ⟨m,e1,e⟩ | ⟨m,e1,e⟩ <;> rw [e]
 ·have:=dg_len (m:=m) (by omega); omega
 ·have:=dg_len (m:=m + 1) (by omega); simp; omega
noncomputable def figB (t:List Nat):Bool:=decide (1≤t.length∧t.length≤40) && (!(t.head? == some 48 && t != [48]) && t.all fun c=>decide (48≤c∧c≤57))
noncomputable def keyB (t:List Nat):Bool:=if t.head? == some 45 then t != [45,48] && figB (t.drop 1) else figB t
end DW
end
section
set_option autoImplicit false
namespace DW.TX
open PySem DW DW.K03
noncomputable def okT (t:List Nat):Prop:=t.all (· < 1114112)=true
theorem app_c {μ:Mem} {c:Cell}:(μ ++ [c])[μ.length]? = some c:=by simp
theorem okT_mem {t:List Nat}:okT t↔∀ c∈t,c < 1114112:=by unfold okT; simp
theorem okT_app {a b:List Nat} (ha:okT a) (hb:okT b):okT (a ++ b):=by
 rw [okT_mem] at *
 intro c hc
 rcases List.mem_append.mp hc with h | h
 ·exact ha c h
 ·exact hb c h
theorem okT_sub {a b:List Nat} (hb:okT b) (h:∀ c∈a,c∈b):okT a:=by
 rw [okT_mem] at *
 exact fun c hc=>hb c (h c hc)
noncomputable def sp_are_figures:DSp:=fun ds μ Q=>∃ t:List Nat,ds=[.str t]∧okT t∧Q (.bl (figB t)) μ
noncomputable def n_are_figures:List Str:=["text"]
noncomputable def tlA:Ss:=(.cons (.ret (.blt "all" (.cons (.comp false 1 false [] (.chain .LtE .LtE (.cst (.str [48])) (.var 0) (.cst (.str [57]))) (.seq (.var 0)) .nil) .nil))) .nil)
noncomputable def i_are_figures:Ss:=(.cons (.ite (.or (.not (.chain .LtE .LtE (.cst (.int 1)) (.blt "len" (.cons (.var 0) .nil)) (.gbl "MOST_FIGURES" (.int 40)))) (.and (.cmp .Eq (.idx (.var 0) (.cst (.int 0))) (.cst (.str [48]))) (.cmp .NotEq (.var 0) (.cst (.str [48]))))) (.cons (.ret (.cst (.bl false))) .nil) .nil) tlA)
theorem allB_map {α:Type} (p:α→Bool):∀ l:List α,allB (l.map fun x=>D.bl (p x))=some (l.all p)
 | []=>rfl
 | x :: l=>by simp [allB,allB_map p l]
theorem lt_one (a b:Nat):ltCs [a] [b]=decide (a < b):=by
 simp only [ltCs]
 by_cases e:a=b
 ·subst e; simp
 ·rw [if_neg e]
theorem tlA_ok {t:List Nat} {μ:Mem} {Q:QD} (q:Q (.bl (t.all fun c=>decide (48≤c∧c≤57))) μ):wSs tlA (topZ Q) [some (.str t)] μ:=by
 simp only [tlA,topZ,wSs,wS,wE,wEs,wI,newL,List.map_nil,List.getElem?_cons_zero,wSeq,chars]
 refine wComp_mapT (fun c=>D.str [c]) (fun c=>D.bl (decide (48≤c∧c≤57))) trivial _ _ ?_ ?_
 ·intro c _ Y N z
  simp only [bindC,wTs,List.getElem?_cons_zero,wCmp,wBl,lt_one,if_true]
  by_cases c1:c < 48
  ·have:¬ (48≤c∧c≤57):=by omega
   simp only [c1,this,decide_true,decide_false,Bool.not_true,Bool.false_eq_true,if_false] at z ⊢
   exact z
  ·simp only [c1,decide_false,Bool.not_false,if_true]
   have:(!decide (57 < c))=decide (48≤c∧c≤57):=by rw [Bool.eq_iff_iff]; simp; omega
   rw [this]; exact z
 ·simp only [List.nil_append,wBlt,lstOf,seqOf,Option.bind_some,allB_map]
  exact q
theorem flat_str {t:List Nat} (h:okT t) (n:Nat):flat n (.str t)=true:=by
 cases n <;> exact h
theorem eq_str (a b:List Nat):eqD (.str a) (.str b)=(a == b):=rfl
theorem k_are_figures:Keeps n_are_figures i_are_figures sp_are_figures:=by
 rintro ds μ Q ⟨t,rfl,ht,q⟩
 have ln:∀ (ν:Mem) (Q:QD),wBlt "len" [.str t] ν Q=Q (.int (t.length:Int)) ν:=fun ν Q=>by simp [wBlt,lenOf]
 simp only [i_are_figures,n_are_figures,startD,wSs,wS,wT,wE,wEs,List.map_cons,List.map_nil,List.length_cons,List.length_nil,List.cons_append,List.nil_append,List.getElem?_cons_zero,List.replicate,ln,wCmp,wBl]
 unfold figB at q
 by_cases h1:1≤t.length
 ·have h1':decide ((1:Int)≤(t.length:Int))=true:=decide_eq_true (by omega)
  simp only [h1',if_true]
  by_cases h2:t.length≤40
  ·have h2':decide ((t.length:Int)≤40)=true:=decide_eq_true (by omega)
   have h12:decide (1≤t.length∧t.length≤40)=true:=decide_eq_true ⟨h1,h2⟩
   rw [h12,Bool.true_and] at q
   simp only [h2',Bool.not_true,Bool.false_eq_true,if_false]
   cases t with
   | nil=>simp at h1
   | cons a r =>
    have hi:∀ (ν:Mem) (Q:QD),wIdx (.str (a :: r)) (.int 0) ν Q=Q (.str [a]) ν:=fun ν Q=>by simp [wIdx,ixD]
    have ha:okT [a]:=okT_sub ht (by simp)
    rw [hi]
    refine ⟨flat_str ha 60,by decide,?_⟩
    have e1:eqD (.str [a]) (.str [48])=decide (a=48):=by rw [eq_str,Bool.eq_iff_iff]; simp
    rw [e1]
    have e2:((a :: r).head? == some 48)=decide (a=48):=by rw [Bool.eq_iff_iff]; simp
    rw [e2] at q
    by_cases h48:a=48
    ·simp only [h48,decide_true,if_true,Bool.true_and] at q ⊢
     rw [h48] at ht
     refine ⟨flat_str ht 60,by decide,?_⟩
     rw [eq_str]
     by_cases hr:(48 :: r)=[48]
     ·have hb:((48 :: r) == [48])=true:=by rw [hr]; rfl
      have hb2:((48 :: r) != [48])=false:=by rw [hr]; rfl
      simp only [hb,hb2,Bool.not_true,Bool.not_false,Bool.true_and,Bool.false_eq_true,if_false] at q ⊢
      exact tlA_ok q
     ·have hb:((48 :: r) == [48])=false:=by simpa using hr
      have hb2:((48 :: r) != [48])=true:=by simpa using hr
      simp only [hb,hb2,Bool.not_true,Bool.not_false,Bool.false_and,if_true,wSs,wS,wE,topZ] at q ⊢
      exact q
    ·simp only [h48,decide_false,Bool.false_and,Bool.not_false,Bool.true_and,Bool.false_eq_true,if_false] at q ⊢
     exact tlA_ok q
  ·have h2':decide ((t.length:Int)≤40)=false:=decide_eq_false (by omega)
   have h12:decide (1≤t.length∧t.length≤40)=false:=decide_eq_false (by omega)
   rw [h12,Bool.false_and] at q
   simp only [h2',Bool.not_false,if_true,wSs,wS,wE,topZ]
   exact q
 ·have h1':decide ((1:Int)≤(t.length:Int))=false:=decide_eq_false (by omega)
  have h12:decide (1≤t.length∧t.length≤40)=false:=decide_eq_false (by omega)
  rw [h12,Bool.false_and] at q
  simp only [h1',Bool.false_eq_true,if_false,Bool.not_false,if_true,wSs,wS,wE,topZ]
  exact q
noncomputable def sp_is_key_text:DSp:=fun ds μ Q=>∃ t:List Nat,ds=[.str t]∧okT t∧Q (.bl (keyB t)) μ
noncomputable def n_is_key_text:List Str:=["text"]
noncomputable def i_is_key_text:Ss:=(.cons (.ite (.sqm "startswith" (.var 0) (.cons (.cst (.str [45])) .nil)) (.cons (.ret (.and (.cmp .NotEq (.var 0) (.cst (.str [45,48]))) (.call "are_figures" sp_are_figures (.cons (.slc false (.var 0) (.cons (.cst (.int 1)) .nil) .nil) .nil)))) .nil) .nil) (.cons (.ret (.call "are_figures" sp_are_figures (.cons (.var 0) .nil))) .nil))
theorem sw_ok {t:List Nat} {c:Nat} {μ:Mem} {Q:QD} (q:Q (.bl (t.head? == some c)) μ):wSqm "startswith" (.str t) [.str [c]] μ Q:=q
theorem tx_sq (m:String) (h:¬ (m = "get"∨m = "pop")) (h2:txM m=true) (t:List Nat) (μ:Mem):isSq m μ (.str t)=true:=by
 unfold isSq; rw [if_neg h,if_pos h2]; rfl
theorem k_is_key_text:Keeps n_is_key_text i_is_key_text sp_is_key_text:=by
 rintro ds μ Q ⟨t,rfl,ht,q⟩
 simp only [i_is_key_text,n_is_key_text,startD,topZ,wSs,wS,wT,wE,wEs,wO,wInt,List.map_cons,List.map_nil,List.length_cons,List.length_nil,List.cons_append,List.nil_append,List.getElem?_cons_zero,List.replicate]
 refine ⟨tx_sq _ (by decide) (by decide) _ _,sw_ok ?_⟩
 simp only [wTru,truth]
 unfold keyB at q
 by_cases h:t.head? = some 45
 ·have hb:(t.head? == some 45)=true:=by rw [h]; rfl
  rw [hb] at q
  simp only [hb,if_true] at q ⊢
  refine wNe_of (flat_str ht 60) (by decide) ?_
  rw [eq_str]
  by_cases h2:t=[45,48]
  ·subst h2
   exact q
  ·have hb1:(t == [45,48])=false:=by simpa using h2
   have hb2:(t != [45,48])=true:=by simpa using h2
   simp only [hb1,hb2,Bool.not_false,Bool.true_and,wBl,if_true] at q ⊢
   have hl:1≤t.length:=by
    cases t with
    | nil=>simp at h
    | cons a r=>simp
   refine And.intro (And.intro ?_ (And.intro ?_ ?_)) ?_
   ·intro i hi
    cases hi
    decide
   ·intro i hi
    cases hi
   ·show min (1:Int).toNat t.length≤t.length; omega
   ·rw [cutD_from _ (by decide)]
    exact ⟨_,rfl,okT_sub ht fun c hc=>List.mem_of_mem_drop hc,q⟩
 ·have hb:(t.head? == some 45)=false:=by simpa using h
  rw [hb] at q
  simp only [hb,Bool.false_eq_true,if_false] at q ⊢
  exact ⟨t,rfl,ht,q⟩
noncomputable def kp (t:List Nat):List Nat:=if 58∈t then preC 58 t else t
noncomputable def tp (t:List Nat):List Nat:=if 58∈t then postC 58 t else []
noncomputable def itmB (t:List Nat):Bool:=!(decide (58∈t) && tp t == []) && (keyB (kp t) && isTagD (.str (tp t)))
theorem kp_sub {t:List Nat}:∀ c∈kp t,c∈t:=by
 unfold kp preC
 split
 ·exact fun c hc=>(List.takeWhile_sublist _).subset hc
 ·exact fun c hc=>hc
theorem tp_sub {t:List Nat}:∀ c∈tp t,c∈t:=by
 unfold tp postC
 split
 ·exact fun c hc=>(List.dropWhile_sublist _).subset (List.mem_of_mem_drop hc)
 ·exact fun c hc=>by simp at hc
noncomputable def mdl (t:List Nat):List Nat:=if 58∈t then [58] else []
theorem part_ok {t:List Nat} {μ:Mem} {Q:QD} (q:Q (.tup [.str (kp t),.str (mdl t),.str (tp t)]) μ):wSqm "partition" (.str t) [.str [58]] μ Q:=by
 show (if 58∈t then Q (.tup [.str (preC 58 t),.str [58],.str (postC 58 t)]) μ else Q (.tup [.str t,.str [],.str []]) μ)
 unfold kp mdl tp at q
 split
 ·rename_i h; simp only [if_pos h] at q; exact q
 ·rename_i h; simp only [if_neg h] at q; exact q
noncomputable def sp_is_item_text:DSp:=fun ds μ Q=>∃ t:List Nat,ds=[.str t]∧okT t∧Q (.bl (itmB t)) μ
noncomputable def n_is_item_text:List Str:=["word","parts"]
noncomputable def i_is_item_text:Ss:=(.cons (.set 1 (.sqm "partition" (.var 0) (.cons (.cst (.str [58])) .nil))) (.cons (.ite (.and (.cmp .Eq (.idx (.var 1) (.cst (.int 1))) (.cst (.str [58]))) (.cmp .Eq (.idx (.var 1) (.cst (.int 2))) (.cst (.str [])))) (.cons (.ret (.cst (.bl false))) .nil) .nil) (.cons (.ret (.and (.call "is_key_text" sp_is_key_text (.cons (.idx (.var 1) (.cst (.int 0))) .nil)) (.call "is_tag" sp_is_tag (.cons (.idx (.var 1) (.cst (.int 2))) .nil)))) .nil)))
theorem k_is_item_text:Keeps n_is_item_text i_is_item_text sp_is_item_text:=by
 rintro ds μ Q ⟨t,rfl,ht,q⟩
 simp only [i_is_item_text,n_is_item_text,startD,topZ,wSs,wS,wT,wE,wEs,List.map_cons,List.map_nil,List.length_cons,List.length_nil,List.cons_append,List.nil_append,List.getElem?_cons_zero,List.getElem?_cons_succ,List.replicate]
 refine ⟨tx_sq _ (by decide) (by decide) _ _,part_ok ?_⟩
 have i0:∀ (ν:Mem) (Q:QD),wIdx (.tup [.str (kp t),.str (mdl t),.str (tp t)]) (.int 0) ν Q=Q (.str (kp t)) ν:=fun ν Q=>rfl
 have i1:∀ (ν:Mem) (Q:QD),wIdx (.tup [.str (kp t),.str (mdl t),.str (tp t)]) (.int 1) ν Q=Q (.str (mdl t)) ν:=fun ν Q=>rfl
 have i2:∀ (ν:Mem) (Q:QD),wIdx (.tup [.str (kp t),.str (mdl t),.str (tp t)]) (.int 2) ν Q=Q (.str (tp t)) ν:=fun ν Q=>rfl
 have hk:okT (kp t):=okT_sub ht kp_sub
 have hp:okT (tp t):=okT_sub ht tp_sub
 have hmd:okT (mdl t):=by unfold mdl; split <;> rfl
 simp only [List.set_cons_succ,List.set_cons_zero,List.getElem?_cons_zero,List.getElem?_cons_succ,i0,i1,i2,wCmp,wBl]
 refine ⟨flat_str hmd 60,by decide,?_⟩
 have e1:eqD (.str (mdl t)) (.str [58])=decide (58∈t):=by
  rw [eq_str]; unfold mdl
  by_cases h:58∈t <;> simp [h]
 rw [e1]
 unfold itmB at q
 have fin:(decide (58∈t) && tp t == [])=false→sp_is_key_text [.str (kp t)] μ fun x μ1=>match x with | .bl b=>(if b=true then sp_is_tag [.str (tp t)] μ1 Q else Q (.bl false) μ1) | _=>False:=fun h=>by
  rw [h,Bool.not_false,Bool.true_and] at q
  refine ⟨kp t,rfl,hk,?_⟩
  simp only
  by_cases hb:keyB (kp t)=true
  ·rw [hb,Bool.true_and] at q
   rw [if_pos hb]
   exact ⟨_,rfl,hp,q⟩
  ·have hb':keyB (kp t)=false:=by simpa using hb
   rw [hb',Bool.false_and] at q
   rw [if_neg hb]
   exact q
 by_cases h:58∈t
 ·simp only [h,decide_true,if_true]
  refine ⟨flat_str hp 60,rfl,?_⟩
  rw [eq_str]
  by_cases h2:tp t=[]
  ·have hb:(tp t == [])=true:=by rw [h2]; rfl
   simp only [h,hb,decide_true,Bool.and_self,Bool.not_true,Bool.false_and,if_true,wSs,wS,wE] at q ⊢
   exact q
  ·have hb:(tp t == [])=false:=by simpa using h2
   simp only [hb,Bool.false_eq_true,if_false]
   exact fin (by rw [hb]; simp)
 ·simp only [h,decide_false,Bool.false_eq_true,if_false]
  exact fin (by simp [h])
noncomputable def sp_read_item:DSp:=fun ds μ Q=>∃ (t:List Nat) (n:Int),ds=[.str t]∧(kp t).length≤640∧intText? ⟨(kp t).toArray⟩=some n∧Q (.tup [.int n,.str (tp t)]) μ
noncomputable def n_read_item:List Str:=["word","parts"]
noncomputable def i_read_item:Ss:=(.cons (.set 1 (.sqm "partition" (.var 0) (.cons (.cst (.str [58])) .nil))) (.cons (.ret (.tup (.cons (.blt "int" (.cons (.idx (.var 1) (.cst (.int 0))) .nil)) (.cons (.idx (.var 1) (.cst (.int 2))) .nil)))) .nil))
theorem k_read_item:Keeps n_read_item i_read_item sp_read_item:=by
 rintro ds μ Q ⟨t,n,rfl,hl,hn,q⟩
 simp only [i_read_item,n_read_item,startD,topZ,wSs,wS,wE,wEs,List.map_cons,List.map_nil,List.length_cons,List.length_nil,List.cons_append,List.nil_append,List.getElem?_cons_zero,List.getElem?_cons_succ,List.replicate]
 refine ⟨tx_sq _ (by decide) (by decide) _ _,part_ok ?_⟩
 exact ⟨n,⟨hl,hn⟩,by decide,q⟩
noncomputable def shw (x:Itm):List Nat:=if x.2=[] then decS x.1 else decS x.1 ++ 58 :: x.2
theorem key_log {k:Int} (h:keyOk k):k.natAbs.log2 < 1920:=by
 by_cases h0:k.natAbs=0
 ·rw [h0]; decide
 ·rw [Nat.log2_lt h0]
  have:=h.1; have:=h.2
  have e:(10:Nat) ^ 40≤2 ^ 1920:=by decide +kernel
  omega
theorem tag_ok {t:List Nat} (h:t∈tags):okT t∧t.length≤8∧58 ∉ t∧32 ∉ t∧isTagD (.str t)=true:=by
 have:∀ t∈tags,(t.all (· < 1114112) && decide (t.length≤8) && decide (58 ∉ t) && decide (32 ∉ t) && isTagD (.str t))=true:=by decide
 have:=this t h
 simp only [Bool.and_eq_true,decide_eq_true_eq] at this
 exact ⟨this.1.1.1.1,this.1.1.1.2,this.1.1.2,this.1.2,this.2⟩
theorem dec_no {k:Int} {c:Nat} (h:c=58∨c=32):c ∉ decS k:=fun z=>by have:=dec_sign z; omega
theorem dec_okT (k:Int):okT (decS k):=okT_mem.mpr fun c hc=>by have:=dec_sign hc; omega
theorem shw_ok {x:Itm} (h:ItOk x):okT (shw x)∧(shw x).length≤50∧32 ∉ shw x∧shw x≠[]:=by
 obtain ⟨t1,t2,t3,t4,_⟩:=tag_ok h.2
 obtain ⟨k,t⟩:=x
 have hd:=dec_len h.1.1 h.1.2
 have d1:32 ∉ decS k:=dec_no (.inr rfl)
 have t4':¬ 32∈t:=t4
 have t2':t.length≤8:=t2
 have hd':(decS k).length≤41:=hd
 unfold shw
 by_cases ht:t=[]
 ·subst ht
  simp only [if_true]
  exact ⟨dec_okT k,by omega,d1,dec_ne k⟩
 ·simp only [ht,if_false]
  refine ⟨okT_app (dec_okT k) (okT_app (a:=[58]) rfl t1),by simp; omega,?_,by simp⟩
  simp [d1,t4']
noncomputable def txt (r:List Itm):List Nat:=joinC [32] (r.map shw)
theorem strsD_map:∀ ws:List (List Nat),strsD (ws.map D.str)=some ws
 | []=>rfl
 | w :: ws=>by simp [strsD,strsD_map ws]
theorem sum_shw:∀ {r:List Itm},(∀ x∈r,ItOk x)→((r.map shw).map List.length).sum≤50 * r.length
 | [],_=>by simp
 | x :: r,h=>by
  have:=sum_shw (r:=r) fun y hy=>h y (by simp [hy])
  have:=(shw_ok (h x (by simp))).2.1
  simp only [List.map_cons,List.sum_cons,List.length_cons]
  omega
theorem join_ok {r:List Itm} (h:∀ x∈r,ItOk x) (hl:r.length≤1000) {d:D} {μ:Mem} {Q:QD} (hd:lstOf μ d=some ((r.map shw).map D.str)) (hns:∀ c,d≠.str c) (q:Q (.str (txt r)) μ):wSqm "join" (.str [32]) [d] μ Q:=by
 have e:wSqm "join" (.str [32]) [d] μ Q=wTxt "join" (.str [32]) [d] μ Q:=rfl
 rw [e]
 unfold wTxt
 simp only
 split
 ·rename_i c hc
  have:=List.cons.inj hc
  exact absurd this.1 (hns _)
 ·rename_i d' hd' hc
  have:=(List.cons.inj hc).1
  subst this
  rw [hd]
  simp only [Option.bind_some,strsD_map]
  refine ⟨trivial,?_,q⟩
  have:=sum_shw h
  simp only [List.length_map,List.length_cons,List.length_nil,lim]
  omega
 ·rename_i h1 h2
  exact absurd rfl (h2 d)
theorem join_mem {sep:List Nat}:∀ {ws:List (List Nat)} {c:Nat},c∈joinC sep ws→c∈sep∨∃ w∈ws,c∈w
 | [],c,h=>by simp [joinC] at h
 | [w],c,h=>.inr ⟨w,by simp,h⟩
 | w :: v :: r,c,h=>by
  simp only [joinC,List.mem_append] at h
  rcases h with (h | h) | h
  ·exact .inr ⟨w,by simp,h⟩
  ·exact .inl h
  ·rcases join_mem h with h | ⟨u,hu,hc⟩
   ·exact .inl h
   ·exact .inr ⟨u,by simp only [List.mem_cons] at hu ⊢; exact .inr hu,hc⟩
theorem txt_ok {r:List Itm} (h:∀ x∈r,ItOk x):okT (txt r):=okT_mem.mpr fun c hc=>by
 rcases join_mem hc with h1 | ⟨w,hw,h1⟩
 ·have:c=32:=by simpa using h1
  omega
 ·obtain ⟨x,hx,rfl⟩:=List.mem_map.mp hw
  exact okT_mem.mp (shw_ok (h x hx)).1 c h1
theorem join_len:∀ (sep:List Nat) (ws:List (List Nat)),(joinC sep ws).length≤(ws.map List.length).sum + ws.length * sep.length
 | sep,[]=>by simp [joinC]
 | sep,[w]=>by simp [joinC]
 | sep,w :: v :: r=>by
  have:=join_len sep (v :: r)
  simp only [joinC,List.length_append,List.map_cons,List.sum_cons,List.length_cons,Nat.add_mul] at this ⊢
  omega
theorem txt_len {r:List Itm} (h:∀ x∈r,ItOk x):(txt r).length≤51 * r.length:=by
 have h1:=join_len [32] (r.map shw)
 have h2:=sum_shw h
 unfold txt
 simp at h1 h2 ⊢
 omega
theorem split_ok {t:List Nat} {μ:Mem} {Q:QD} (h:t.length < lim) (q:Q (.lst ((splitC 32 t).map .str)) μ):wSqm "split" (.str t) [.str [32]] μ Q:=⟨⟨by decide,h⟩,false,q⟩
end DW.TX
end
section
set_option autoImplicit false
namespace DW.TX
open PySem DW DW.K03
noncomputable def num (t:List Nat):Int:=(intText? ⟨t.toArray⟩).getD 0
theorem fig_digits {t:List Nat} (h:figB t=true):(∀ c∈t,48≤c∧c≤57)∧t≠[]∧t.length≤40:=by
 unfold figB at h
 simp only [Bool.and_eq_true,decide_eq_true_eq,List.all_eq_true] at h
 obtain ⟨⟨h1,h2⟩,_,h3⟩:=h
 exact ⟨h3,by rintro rfl; simp at h1,h2⟩
theorem key_num {t:List Nat} (h:keyB t=true):t.length≤640∧intText? ⟨t.toArray⟩=some (num t):=by
 have fin:∀ n:Int,intText? ⟨t.toArray⟩=some n→intText? ⟨t.toArray⟩=some (num t):=fun n e=>by unfold num; rw [e]; rfl
 unfold keyB at h
 split at h
 ·rename_i hb
  simp only [Bool.and_eq_true] at h
  obtain ⟨h1,h2,h3⟩:=fig_digits h.2
  cases t with
  | nil=>simp at hb
  | cons a r =>
   have:a=45:=by simpa using hb
   subst this
   simp only [List.drop_succ_cons,List.drop_zero] at h1 h2 h3
   refine ⟨by simp; omega,fin _ (intText_neg (x:=⟨(45 :: r).toArray⟩) (cs:=r) (by simp) (by intro c hc; exact h1 c hc) h2 (by simp [Str.length]; omega))⟩
 ·obtain ⟨h1,h2,h3⟩:=fig_digits h
  exact ⟨by omega,fin _ (intText_digits (x:=⟨t.toArray⟩) (by intro c hc; exact h1 c (by simpa using hc)) (by simpa using h2) (by simp [Str.length]; omega))⟩
noncomputable def itmW (w:List Nat):Itm:=(num (kp w),tp w)
noncomputable def rdW:Nat→List (List Nat)→Sum Nat (List Itm)
 | _,[]=>.inr []
 | k,w :: ws=>if itmB w=true then (match rdW (k + 1) ws with | .inl n=>.inl n | .inr r=>.inr (itmW w :: r)) else .inl k
noncomputable def rdT (t:List Nat):Sum Nat (List Itm):=if t=[] then .inr [] else rdW 0 (splitC 32 t)
theorem rd_app:∀ (a:List (List Nat)) (k:Nat) (b:List (List Nat)),(∀ w∈a,itmB w=true)→rdW k (a ++ b)=match rdW (k + a.length) b with | .inl n=>.inl n | .inr r=>.inr (a.map itmW ++ r)
 | [],k,b,_=>by simp; cases rdW k b <;> rfl
 | w :: a,k,b,h=>by
  have ih:=rd_app a (k + 1) b fun v hv=>h v (by simp [hv])
  simp only [List.cons_append,rdW,h w (by simp),if_true,ih,List.length_cons]
  rw [show k + 1 + a.length=k + (a.length + 1) by omega]
  cases rdW (k + (a.length + 1)) b <;> rfl
theorem rd_bad {a:List (List Nat)} {w:List Nat} {b:List (List Nat)} (h:∀ w∈a,itmB w=true) (hw:itmB w=false):rdW 0 (a ++ w :: b) = .inl a.length:=by
 rw [rd_app a 0 _ h]
 simp [rdW,hw]
theorem rd_good {a:List (List Nat)} (h:∀ w∈a,itmB w=true):rdW 0 a = .inr (a.map itmW):=by
 have:=rd_app a 0 [] h
 simpa [rdW] using this
noncomputable def resD:Sum Nat (List Itm)→D
 | .inl k=>.int k
 | .inr r=>.lst (r.map itD)
theorem split_count (c:Nat):∀ t:List Nat,(splitC c t).length=t.count c + 1
 | []=>rfl
 | a :: t=>by
  have ih:=split_count c t
  unfold splitC
  by_cases h:a=c
  ·subst h; simp [ih]
  ·rw [if_neg h,List.count_cons_of_ne h]
   cases q:splitC c t with
   | nil=>rw [q] at ih; simp at ih
   | cons p ps=>rw [q] at ih; simpa using ih
theorem split_mem {c:Nat}:∀ {t w:List Nat},w∈splitC c t→∀ x∈w,x∈t
 | [],w,h,x,hx=>by
  have:w=[]:=by simpa [splitC] using h
  subst this; simp at hx
 | a :: t,w,h,x,hx=>by
  unfold splitC at h
  split at h
  ·rcases List.mem_cons.mp h with rfl | h
   ·simp at hx
   ·exact List.mem_cons_of_mem _ (split_mem h x hx)
  ·cases q:splitC c t with
   | nil =>
    rw [q] at h
    have:w=[a]:=by simpa using h
    subst this
    have:x=a:=by simpa using hx
    simp [this]
   | cons p ps =>
    rw [q] at h
    rcases List.mem_cons.mp h with rfl | h
    ·rcases List.mem_cons.mp hx with rfl | hx
     ·simp
     ·exact List.mem_cons_of_mem _ (split_mem (by rw [q]; simp) x hx)
    ·exact List.mem_cons_of_mem _ (split_mem (by rw [q]; simp [h]) x hx)
theorem split_pre {c:Nat}:∀ {t:List Nat},splitC c t=preC c t :: (if c∈t then splitC c (postC c t) else [])
 | []=>rfl
 | a :: t=>by
  have ih:=split_pre (c:=c) (t:=t)
  conv=>lhs; unfold splitC
  by_cases h:a=c
  ·subst h
   simp [preC,postC]
  ·rw [if_neg h,ih]
   have hb:(a != c)=true:=by simpa using h
   have e1:preC c (a :: t)=a :: preC c t:=by unfold preC; rw [List.takeWhile_cons,if_pos hb]
   have e2:postC c (a :: t)=postC c t:=by unfold postC; rw [List.dropWhile_cons,if_pos hb]
   rw [e1,e2]
   simp [Ne.symm h]
theorem item_ok {w:List Nat} (h:itmB w=true):isTagD (.str (tp w))=true∧keyB (kp w)=true:=by
 unfold itmB at h
 simp only [Bool.and_eq_true] at h
 exact ⟨h.2.2,h.2.1⟩
theorem split_le (c : Nat) : ∀ (x : List Nat), ∀ w ∈ splitC c x, w.length ≤ x.length
  | [], w, h => by simp [splitC] at h; simp [h]
  | a :: x, w, h => by
    have ih := split_le c x
    unfold splitC at h
    split at h
    · rcases List.mem_cons.mp h with rfl | h
      · simp
      · have := ih w h; simp; omega
    · cases q : splitC c x with
      | nil => rw [q] at h; have : w = [a] := by simpa using h
               subst this; simp
      | cons p ps =>
        rw [q] at h ih
        rcases List.mem_cons.mp h with rfl | h
        · have := ih p (by simp); simp; omega
        · have := ih w (by simp [h]); simp; omega
end DW.TX
end
section
set_option autoImplicit false
namespace DW.K05
open PySem DW DW.K03 DW.TX
noncomputable def spL_text:DSp:=fun ds μ Q=>∃ r:List Itm,ds=[.lst (r.map itD)]∧(∀ x∈r,ItOk x)∧r.length≤1000∧∀ c,Q (.str (txt r)) (μ ++ [c])
noncomputable def nL_text:List Str:=["row","words","key","tag"]
noncomputable def iL_text:Ss:=(.cons (.set 1 (.lst true .nil)) (.cons (.for_ [2,3] true (.seq (.var 0)) (.cons (.exp (.meth "append" (.var 1) (.cons (.bin .Add (.blt "str" (.cons (.var 2) .nil)) (.idx (.lst false (.cons (.bin .Add (.cst (.str [58])) (.var 3)) (.cons (.cst (.str [])) .nil))) (.blt "int" (.cons (.cmp .Eq (.var 3) (.cst (.str []))) .nil)))) .nil))) .nil)) (.cons (.ret (.sqm "join" (.cst (.str [32])) (.cons (.var 1) .nil))) .nil)))
theorem kL_text:Keeps nL_text iL_text spL_text:=by
 rintro ds μ Q ⟨r,rfl,hr,hl,q⟩
 simp only [iL_text,nL_text,startD,topZ,wSs,wS,wE,wEs,wI,newL,List.map_cons,List.map_nil,List.length_cons,List.length_nil,List.cons_append,List.nil_append,List.getElem?_cons_zero,List.getElem?_cons_succ,List.replicate,List.set_cons_succ,List.set_cons_zero,wSeq]
 refine ⟨by decide,?_⟩
 refine wLoop_pre itD r (fun pre ρ μ'=>∃ x y,ρ=[some (.lst (r.map itD)),some (.loc μ.length),x,y]∧μ'=μ ++ [.lst ((pre.map shw).map D.str)]) ?_ ?_ _ _ ⟨none,none,rfl,rfl⟩
 ·rintro pre z post e ρ μ1 N hN ⟨x,y,rfl,rfl⟩
  refine ⟨trivial,?_⟩
  have hz:ItOk z:=hr z (by rw [e]; simp)
  obtain ⟨t1,t2,_⟩:=tag_ok hz.2
  have hd:=dec_len hz.1.1 hz.1.2
  obtain ⟨k,t⟩:=z
  have hpl:pre.length≤1000:=by have:=congrArg List.length e; simp at this; omega
  have hg:(μ ++ [Cell.lst ((pre.map shw).map D.str)])[μ.length]? = some (.lst ((pre.map shw).map D.str)):=by simp
  simp only [itD,bindT,List.length_cons,List.length_nil,List.zip_cons_cons,List.zip_nil_left,List.zip_nil_right,List.foldl_cons,List.foldl_nil,List.set_cons_succ,List.set_cons_zero,List.getElem?_cons_zero,List.getElem?_cons_succ,isCell,hg,wBlt,wBin,wCmp]
  have t2':t.length≤8:=t2
  have hd':(decS k).length≤41:=hd
  refine ⟨trivial,trivial,key_log hz.1,by simp [lim]; omega,by decide,flat_str t1 60,rfl,?_⟩
  rw [eq_str]
  have fin:∀ w:List Nat,w=shw (k,t)→w.length≤100→wMeth "append" (.loc μ.length) [.str w] (μ ++ [Cell.lst ((pre.map shw).map D.str)]) fun _ μ1=>N [some (.lst (r.map itD)),some (.loc μ.length),some (.int k),some (.str t)] μ1:=fun w hw _=>by
   simp only [wMeth,hg,wMethL,List.length_map]
   refine ⟨by simp only [lim]; omega,hN _ _ ⟨_,_,rfl,?_⟩⟩
   simp [hw]
  by_cases h:t=[]
  ·subst h
   have i1:∀ (a b:D) (ν:Mem) (Q:QD),wIdx (.lst [a,b]) (.int (if (([]:List Nat) == [])=true then 1 else 0)) ν Q=Q b ν:=fun a b ν Q=>rfl
   rw [i1]
   simp only [List.append_nil]
   exact ⟨by simp [lim]; omega,fin _ (by simp [shw]) (by omega)⟩
  ·have hb:(t == [])=false:=by simpa using h
   have i1:∀ (a b:D) (ν:Mem) (Q:QD),wIdx (.lst [a,b]) (.int (if (t == [])=true then 1 else 0)) ν Q=Q a ν:=fun a b ν Q=>by rw [hb]; rfl
   rw [i1]
   simp only
   exact ⟨by simp [lim]; omega,fin _ (by simp [shw,h]) (by simp; omega)⟩
 ·rintro ρ μ1 ⟨x,y,rfl,rfl⟩
  refine ⟨trivial,?_⟩
  simp only [List.getElem?_cons_zero,List.getElem?_cons_succ]
  refine ⟨tx_sq _ (by decide) (by decide) _ _,join_ok hr hl ?_ (fun c=>by simp) (q _)⟩
  simp [lstOf,seqOf]
noncomputable def okI (x:Itm):Prop:=isTagD (.str x.2)=true
theorem okI_letters {x:Itm} (h:okI x):x.2.length≤8∧x.2.all letter=true:=by
 unfold okI isTagD at h
 simpa using h
theorem okI_item {x:Itm} (h:okI x):isItemD (itD x)=true:=by
 obtain ⟨h1,h2⟩:=okI_letters h
 show (decide (x.2.length < 9) && x.2.all letter)=true
 rw [h2,decide_eq_true (by omega)]; rfl
theorem okI_ok {x:Itm} (h:okI x):okT x.2:=okT_mem.mpr fun c hc=>by
 have:=List.all_eq_true.mp (okI_letters h).2 c hc
 simp only [letter,Bool.and_eq_true,decide_eq_true_eq] at this
 omega
theorem okI_good {x:Itm} {μ:Mem} (h:okI x):good μ (itD x)=true:=by
 have:=okI_ok h
 unfold okT at this
 simp [itD,good,goods]
 simpa using this
theorem okI_flat {x:Itm} (h:okI x) (n:Nat):flat (n + 1) (itD x)=true:=by
 have:=okI_ok h
 show flats n [.int x.1,.str x.2]=true
 simp only [flats,flat_str this n,Bool.and_true]
 cases n <;> rfl
noncomputable def spL_is_list:DSp:=fun ds μ Q=>∃ (f:D) (r:List Itm),ds=[f,.lst (r.map itD)]∧f = .lst (r.map itD)∧(∀ x∈r,okI x)∧Q (.bl true) μ
theorem kL_is_list:Keeps nL_is_list iL_is_list spL_is_list:=by
 rintro ds μ Q ⟨f,r,rfl,rfl,ok,h⟩
 have hl:lenOf μ (.lst (r.map itD))=some r.length:=by simp [lenOf,seqOf]
 have hs2:lstOf μ (.lst (r.map itD))=some (r.map itD):=rfl
 simp [iL_is_list,nL_is_list,startD,topZ,wSs,wS,wT,wE,wEs,wI,wIsin,tyOf,isTy,wBl,wBlt,hl,wCmp,flat,eqD,wZip,hs2,zipD_same]
 refine wLoop_inv (fun ds ρ μ'=>μ'=μ∧∃ (r2:List Itm) (u v:Option D),ds=r2.map (fun x=>.tup [itD x,itD x])∧(∀ x∈r2,okI x)∧ρ=[some (.lst (r.map itD)),some (.lst (r.map itD)),u,v]) ?_ ?_ _ _ _ ⟨rfl,r,none,none,rfl,ok,rfl⟩
 ·rintro d ds ρ μ' N hN ⟨rfl,r2,u,v,e,ok2,rfl⟩
  cases r2 with
  | nil=>simp at e
  | cons x r2 =>
   simp at e
   obtain ⟨rfl,rfl⟩:=e
   refine ⟨hs2,?_⟩
   have hx:=ok2 x (by simp)
   simp [bindT]
   refine ⟨itD x,rfl,okI_good hx,?_⟩
   rw [okI_item hx]
   have fx:=okI_flat hx 59
   have es:=eqD_self 60 _ fx
   simp [wTru,truth]
   show flat 60 (itD x)=true∧flat 60 (itD x)=true∧(if eqD (itD x) (itD x)=true then _ else _)
   refine ⟨fx,fx,?_⟩
   simp only [es,if_true]
   exact hN _ _ ⟨rfl,r2,_,_,rfl,fun y hy=>ok2 y (by simp [hy]),rfl⟩
 ·rintro ρ μ' ⟨rfl,r2,u,v,e,ok2,rfl⟩
  exact ⟨hs2,h⟩
theorem slc_to {t:List Nat} {m:Bool} {i:Int} {μ:Mem} {Q:QD} (h:0≤i) (q:Q (.str (t.take i.toNat)) μ):wSlc m (.str t) none (some i) μ Q:=by
 refine And.intro (And.intro ?_ (And.intro ?_ ?_)) ?_
 ·intro i hi; cases hi
 ·intro i hi; cases hi; exact h
 ·exact Nat.zero_le _
 ·rw [cutD_to _ h]; exact q
theorem slc_from {t:List Nat} {m:Bool} {i:Int} {μ:Mem} {Q:QD} (h:0≤i) (q:Q (.str (t.drop i.toNat)) μ):wSlc m (.str t) (some i) none μ Q:=by
 refine And.intro (And.intro ?_ (And.intro ?_ ?_)) ?_
 ·intro i hi; cases hi; exact h
 ·intro i hi; cases hi
 ·show sIxD t.length 0 (some i)≤t.length
  unfold sIxD; simp only [show ¬ i < 0 by omega,if_false]; omega
 ·rw [cutD_from _ h]; exact q
noncomputable def bare (t:List Nat):List Nat:=if t.head? = some 45 then t.drop 1 else t
noncomputable def digs:List Nat:=[48,49,50,51,52,53,54,55,56,57]
noncomputable def spL_key_in:DSp:=fun ds μ Q=>∃ t:List Nat,ds=[.str t]∧okT t∧Q (if keyB t=true then .int (num t) else .non) μ
noncomputable def nL_key_in:List Str:=["word","bare"]
noncomputable def tlK:Ss:=(.cons (.ite (.and (.cmp .Eq (.idx (.var 1) (.cst (.int 0))) (.cst (.str [48]))) (.cmp .NotEq (.var 0) (.cst (.str [48])))) (.cons (.ret (.cst .non)) .nil) .nil) (.cons (.ret (.blt "int" (.cons (.var 0) .nil))) .nil))
noncomputable def tlJ:Ss:=(.cons (.ite (.or (.cmp .Eq (.var 1) (.cst (.str []))) (.or (.cmp .Gt (.blt "len" (.cons (.var 1) .nil)) (.cst (.int 40))) (.cmp .NotEq (.comp false 1 false [] (.var 0) (.seq (.var 1)) (.cons (.cmp .NotIn (.var 0) (.cst (.str [48,49,50,51,52,53,54,55,56,57]))) .nil)) (.lst false .nil)))) (.cons (.ret (.cst .non)) .nil) .nil) tlK)
noncomputable def iL_key_in:Ss:=(.cons (.set 1 (.ife (.cmp .Eq (.slc false (.var 0) .nil (.cons (.cst (.int 1)) .nil)) (.cst (.str [45]))) (.slc false (.var 0) (.cons (.cst (.int 1)) .nil) .nil) (.var 0))) tlJ)
theorem bare_ok {t:List Nat} (h:okT t):okT (bare t):=by
 unfold bare
 split
 ·exact okT_sub h fun c hc=>List.mem_of_mem_drop hc
 ·exact h
theorem dig_iff (c:Nat):digs.contains c=decide (48≤c∧c≤57):=by
 by_cases h:48≤c∧c≤57
 ·obtain ⟨h1,h2⟩:=h
  have:c=48∨c=49∨c=50∨c=51∨c=52∨c=53∨c=54∨c=55∨c=56∨c=57:=by omega
  rcases this with rfl | rfl | rfl | rfl | rfl | rfl | rfl | rfl | rfl | rfl <;> decide
 ·rw [decide_eq_false h]
  simp only [digs,List.contains_cons,List.contains_nil,Bool.or_eq_false_iff,beq_eq_false_iff_ne,Bool.or_false]
  omega
theorem key_same {t:List Nat}:keyB t=(decide (bare t≠[]∧(bare t).length≤40∧∀ c∈bare t,48≤c∧c≤57) && !(decide ((bare t).head? = some 48) && decide (t≠[48]))):=by
 have figs:∀ b:List Nat,figB b=(decide (b≠[]∧b.length≤40∧∀ c∈b,48≤c∧c≤57) && !(decide (b.head? = some 48) && decide (b≠[48]))):=by
  intro b
  rw [Bool.eq_iff_iff]
  unfold figB
  simp only [Bool.and_eq_true,decide_eq_true_eq,Bool.not_eq_true',Bool.and_eq_false_iff,beq_eq_false_iff_ne,bne_eq_false_iff_eq,decide_eq_false_iff_not,List.all_eq_true,ne_eq,Decidable.not_not]
  constructor
  ·rintro ⟨⟨h1,h2⟩,h3,h4⟩
   exact ⟨⟨by rintro rfl; simp at h1,h2,h4⟩,h3⟩
  ·rintro ⟨⟨h1,h2,h4⟩,h3⟩
   refine ⟨⟨?_,h2⟩,h3,h4⟩
   cases b with
   | nil=>exact absurd rfl h1
   | cons a r=>simp
 unfold keyB bare
 by_cases h:t.head? = some 45
 ·rw [if_pos h]
  have hb:(t.head? == some 45)=true:=by rw [h]; rfl
  rw [hb,if_pos rfl,figs]
  cases t with
  | nil=>simp at h
  | cons a r =>
   have:a=45:=by simpa using h
   subst this
   simp only [List.drop_succ_cons,List.drop_zero]
   rw [Bool.eq_iff_iff]
   simp only [Bool.and_eq_true,decide_eq_true_eq,Bool.not_eq_true',Bool.and_eq_false_iff,decide_eq_false_iff_not,bne_iff_ne,ne_eq,Decidable.not_not,List.cons.injEq,true_and]
   constructor
   ·rintro ⟨h1,h2,h3⟩
    refine ⟨h2,?_⟩
    rcases h3 with h3 | h3
    ·exact .inl h3
    ·exact absurd h3 h1
   ·rintro ⟨h2,h3⟩
    rcases h3 with h3 | h3
    ·exact ⟨fun e=>by rw [e] at h3; exact h3 rfl,h2,.inl h3⟩
    ·exact absurd h3.1 (by decide)
 ·rw [if_neg h]
  have hb:(t.head? == some 45)=false:=by simpa using h
  rw [hb,if_neg (by decide),figs]
theorem head_take (t:List Nat) (c:Nat):(t.take 1 == [c])=decide (t.head? = some c):=by
 rw [Bool.eq_iff_iff]
 cases t with
 | nil=>simp
 | cons a r=>simp
theorem tlK_ok {t:List Nat} {μ:Mem} {Q:QD} (ht:okT t) (h0:bare t≠[]) (h1:(bare t).length≤40∧∀ c∈bare t,48≤c∧c≤57) (q:Q (if keyB t=true then .int (num t) else .non) μ):wSs tlK (topZ Q) [some (.str t),some (.str (bare t))] μ:=by
 have hk:keyB t = !(decide ((bare t).head? = some 48) && decide (t≠[48])):=by
  rw [key_same,decide_eq_true ⟨h0,h1⟩,Bool.true_and]
 obtain ⟨a,r,hb⟩:∃ a r,bare t=a :: r:=by
  cases q:bare t with
  | nil=>exact absurd q h0
  | cons a r=>exact ⟨a,r,rfl⟩
 have hbo:=bare_ok ht
 have hi:∀ (ν:Mem) (Q:QD),wIdx (.str (bare t)) (.int 0) ν Q=Q (.str [a]) ν:=fun ν Q=>by rw [hb]; simp [wIdx,ixD]
 simp only [tlK,topZ,wSs,wS,wT,wE,wEs,List.getElem?_cons_zero,List.getElem?_cons_succ,hi,wCmp,wBl]
 have ha:okT [a]:=okT_sub hbo (by rw [hb]; simp)
 refine ⟨flat_str ha 60,by decide,?_⟩
 have e1:eqD (.str [a]) (.str [48])=decide (a=48):=by rw [eq_str,Bool.eq_iff_iff]; simp
 have e2:decide ((bare t).head? = some 48)=decide (a=48):=by rw [hb,Bool.eq_iff_iff]; simp
 rw [e2] at hk
 rw [e1]
 have fin:keyB t=true→wBlt "int" [.str t] μ Q:=fun z=>by
  rw [if_pos z] at q
  exact ⟨num t,key_num z,q⟩
 by_cases h48:a=48
 ·simp only [h48,decide_true,if_true]
  refine ⟨flat_str ht 60,by decide,?_⟩
  rw [eq_str]
  by_cases h2:t=[48]
  ·have:(!(t == [48]))=false:=by rw [h2]; rfl
   simp only [this,Bool.false_eq_true,if_false]
   exact fin (by rw [hk,h48,h2]; decide)
  ·have:(!(t == [48]))=true:=by simpa using h2
   simp only [this,if_true]
   have hf:keyB t=false:=by rw [hk,h48,decide_eq_true h2]; decide
   rw [hf] at q
   exact q
 ·simp only [h48,decide_false,Bool.false_eq_true,if_false]
  exact fin (by rw [hk,decide_eq_false h48]; rfl)
theorem flats_chars {b:List Nat} (h:okT b) (n:Nat):flats n (b.map fun c=>D.str [c])=true:=by
 induction b with
 | nil=>cases n <;> rfl
 | cons a b ih =>
  have h1:okT [a]:=okT_sub h (by simp)
  have h2:okT b:=okT_sub h (by intro c hc; simp [hc])
  simp only [List.map_cons,flats,flat_str h1,ih h2]; rfl
theorem tlJ_ok {t:List Nat} {μ:Mem} {Q:QD} (ht:okT t) (q:Q (if keyB t=true then .int (num t) else .non) μ):wSs tlJ (topZ Q) [some (.str t),some (.str (bare t))] μ:=by
 have hbo:=bare_ok ht
 have ln:∀ (ν:Mem) (Q:QD),wBlt "len" [.str (bare t)] ν Q=Q (.int ((bare t).length:Int)) ν:=fun ν Q=>by simp [wBlt,lenOf]
 have no:¬ (bare t≠[]∧(bare t).length≤40∧∀ c∈bare t,48≤c∧c≤57)→Q .non μ:=fun z=>by
  have:keyB t=false:=by rw [key_same,decide_eq_false z]; rfl
  rw [this] at q; exact q
 simp only [tlJ,wSs,wS,wT,wE,wEs,wI,newL,List.getElem?_cons_zero,List.getElem?_cons_succ,wCmp,wBl,ln,List.map_nil]
 refine ⟨flat_str hbo 60,rfl,?_⟩
 rw [eq_str]
 by_cases h0:bare t=[]
 ·have:(bare t == [])=true:=by rw [h0]; rfl
  simp only [this,if_true,wSs,wS,wE,topZ]
  exact no fun z=>z.1 h0
 ·have:(bare t == [])=false:=by simpa using h0
  simp only [this,Bool.false_eq_true,if_false]
  by_cases h1:(bare t).length≤40
  ·have:decide ((40:Int) < ((bare t).length:Int))=false:=decide_eq_false (by omega)
   simp only [this,Bool.false_eq_true,if_false,wSeq,chars]
   refine wComp_mapL (fun c=>D.str [c]) (fun c=>!digs.contains c) (fun c=>D.str [c]) trivial _ _ ?_ ?_
   ·intro c hc Y N z
    simp only [bindC,wTs,List.getElem?_cons_zero]
    exact z
   ·simp only [List.nil_append]
    have hfo:okT ((bare t).filter fun c=>!digs.contains c):=okT_sub hbo fun c hc=>(List.mem_filter.mp hc).1
    refine ⟨by decide,flats_chars hfo 59,rfl,?_⟩
    have en:∀ ds:List D,eqD (.lst ds) (.lst [])=ds.isEmpty:=fun ds=>by cases ds <;> rfl
    simp only [en]
    by_cases h2:∀ c∈bare t,48≤c∧c≤57
    ·have e:(bare t).filter (fun c=>!digs.contains c)=[]:=by
      rw [List.filter_eq_nil_iff]
      intro c hc
      rw [dig_iff,decide_eq_true (h2 c hc)]
      decide
     simp only [e,List.map_nil,List.isEmpty_nil,Bool.not_true,Bool.false_eq_true,if_false]
     exact tlK_ok ht h0 ⟨h1,h2⟩ q
    ·have e:(((bare t).filter fun c=>!digs.contains c).map fun c=>D.str [c]).isEmpty=false:=by
      cases e:(bare t).filter fun c=>!digs.contains c with
      | cons a r=>rfl
      | nil =>
       exfalso
       apply h2
       intro c hc
       have:=List.filter_eq_nil_iff.mp e c hc
       rw [dig_iff] at this
       simpa using this
     simp only [e,Bool.not_false,if_true,wSs,wS,wE,topZ]
     exact no fun z=>h2 z.2.2
  ·have:decide ((40:Int) < ((bare t).length:Int))=true:=decide_eq_true (by omega)
   simp only [this,if_true,wSs,wS,wE,topZ]
   exact no fun z=>h1 z.2.1
theorem kL_key_in:Keeps nL_key_in iL_key_in spL_key_in:=by
 rintro ds μ Q ⟨t,rfl,ht,q⟩
 simp only [iL_key_in,nL_key_in,startD,wSs,wS,wT,wE,wO,wInt,List.map_cons,List.map_nil,List.length_cons,List.length_nil,List.cons_append,List.nil_append,List.getElem?_cons_zero,List.replicate]
 refine slc_to (by decide) ?_
 simp only [wCmp,wBl]
 have htk:okT (t.take (1:Int).toNat):=okT_sub ht fun c hc=>List.mem_of_mem_take hc
 refine ⟨flat_str htk 60,by decide,?_⟩
 rw [eq_str]
 show (if (t.take 1 == [45])=true then _ else _)
 rw [head_take]
 have hb:=tlJ_ok ht q
 unfold bare at hb
 by_cases h:t.head? = some 45
 ·rw [if_pos h] at hb
  simp only [h,decide_true,if_true]
  exact slc_from (by decide) hb
 ·rw [if_neg h] at hb
  simp only [h,decide_false,Bool.false_eq_true,if_false]
  exact hb
end DW.K05
end
section
set_option autoImplicit false
namespace DW.K05
open PySem DW DW.K03 DW.TX
noncomputable def TxtOk (t:List Nat):Prop:=okT t∧t.length < 100000∧t.count 32 < 150
noncomputable def spL_read:DSp:=fun ds μ Q=>∃ t:List Nat,ds=[.str t]∧TxtOk t∧∀ ν:Mem,Q (resD (rdT t)) (μ ++ ν)
noncomputable def nL_read:List Str:=["text","row","at","word","parts","key","item"]
noncomputable def tlI:Ss:=(.cons (.set 6 (.tup (.cons (.var 5) (.cons (.idx (.cat false (.var 4) (.lst false (.cons (.cst (.str [])) .nil))) (.cst (.int 1))) .nil)))) (.cons (.ite (.not (.call "_law_is_item" spL_is_item (.cons (.var 6) .nil))) (.cons (.ret (.var 2)) .nil) .nil) (.cons (.exp (.meth "append" (.var 1) (.cons (.var 6) .nil))) .nil)))
noncomputable def tlR:Ss:=(.cons (.set 4 (.sqm "split" (.var 3) (.cons (.cst (.str [58])) .nil))) (.cons (.set 5 (.call "_law_key_in" spL_key_in (.cons (.idx (.var 4) (.cst (.int 0))) .nil))) (.cons (.ite (.or (.cmp .Is (.var 5) (.cst .non)) (.or (.cmp .Gt (.blt "len" (.cons (.var 4) .nil)) (.cst (.int 2))) (.and (.cmp .Eq (.blt "len" (.cons (.var 4) .nil)) (.cst (.int 2))) (.cmp .Eq (.idx (.var 4) (.cst (.int 1))) (.cst (.str [])))))) (.cons (.ret (.var 2)) .nil) .nil) tlI)))
noncomputable def iL_read:Ss:=(.cons (.set 1 (.lst true .nil)) (.cons (.ite (.cmp .Eq (.var 0) (.cst (.str []))) (.cons (.ret (.frz (.var 1))) .nil) .nil) (.cons (.for_ [2,3] true (.enum (.sqm "split" (.var 0) (.cons (.cst (.str [32])) .nil))) tlR) (.cons (.ret (.frz (.var 1))) .nil))))
theorem kp_pre (w:List Nat):kp w=preC 58 w:=by
 unfold kp
 split
 ·rfl
 ·rename_i h; exact (preC_no h).symm
theorem split58_ok {t:List Nat} {μ:Mem} {Q:QD} (h:t.length < lim) (q:Q (.lst ((splitC 58 t).map .str)) μ):wSqm "split" (.str t) [.str [58]] μ Q:=⟨⟨by decide,h⟩,false,q⟩
theorem tag_colon {t:List Nat} (h:58∈t):isTagD (.str t)=false:=by
 cases q:isTagD (.str t) with
 | false=>rfl
 | true =>
  unfold isTagD at q
  simp only [Bool.and_eq_true,List.all_eq_true] at q
  have:=q.2 58 h
  simp [letter] at this
theorem tlR_ok {Z:DEnds} {v0:Option D} {k:Nat} {n:Nat} {w:List Nat} {r:List Itm} {μ:Mem} {x4 x5 x6:Option D} (hw:okT w) (hl:w.length < 100000) (hn:μ[n]? = some (.lst (r.map itD))) (hr:r.length < 1000)
  (hbad:itmB w=false→Z.rt (.int (k:Int)) μ) (hgood:itmB w=true→∀ x4 x5 x6,Z.nx [v0,some (.loc n),some (.int (k:Int)),some (.str w),x4,x5,x6] (μ.set n (.lst ((r ++ [itmW w]).map itD)))) :
  wSs tlR Z [v0,some (.loc n),some (.int (k:Int)),some (.str w),x4,x5,x6] μ:=by
 simp only [tlR,wSs,wS,wE,wEs,List.getElem?_cons_zero,List.getElem?_cons_succ,List.set_cons_succ,List.set_cons_zero]
 refine ⟨tx_sq _ (by decide) (by decide) _ _,split58_ok (by simp only [lim]; omega) ?_⟩
 have hsp:=split_pre (c:=58) (t:=w)
 rw [← kp_pre] at hsp
 have hk:okT (kp w):=okT_sub hw kp_sub
 have hp:okT (tp w):=okT_sub hw tp_sub
 have i0:∀ (P:List (List Nat)) (ν:Mem) (Q:QD),wIdx (.lst ((kp w :: P).map .str)) (.int 0) ν Q=Q (.str (kp w)) ν:=fun P ν Q=>by simp [wIdx,seqOf,ixD]
 generalize hP:(if 58∈w then splitC 58 (postC 58 w) else [])=P at hsp
 rw [hsp]
 simp only [i0]
 refine ⟨kp w,rfl,hk,?_⟩
 by_cases hkb:keyB (kp w)=true
 ·rw [if_pos hkb]
  have ln:∀ (ν:Mem) (Q:QD),wBlt "len" [.lst ((kp w :: P).map .str)] ν Q=Q (.int (((P.length + 1:Nat)):Int)) ν:=fun ν Q=>by simp [wBlt,lenOf,seqOf]
  simp only [wT,wE,wEs,List.getElem?_cons_zero,List.getElem?_cons_succ,List.set_cons_succ,List.set_cons_zero,wCmp,isNon,wBl,Bool.false_eq_true,if_false,ln]
  have fin:((kp w :: P ++ [[]])[1]? = some (tp w))→(¬ (58∈w∧tp w=[]))→∀ x6,wSs tlI Z [v0,some (.loc n),some (.int (k:Int)),some (.str w),some (.lst ((kp w :: P).map .str)),some (.int (num (kp w))),x6] μ:=by
   intro h1 hne x6
   have hbB:itmB w=isTagD (.str (tp w)):=by
    unfold itmB
    rw [hkb,Bool.true_and]
    have:(decide (58∈w) && tp w == [])=false:=by
     rw [Bool.eq_false_iff]
     intro z
     simp only [Bool.and_eq_true,decide_eq_true_eq,beq_iff_eq] at z
     exact hne z
    rw [this]; rfl
   have hPl:(kp w :: P).length≤100001:=by
    have h2:=splitC_len 58 w
    rw [hsp] at h2
    omega
   have ix:∀ (ν:Mem) (Q:QD),wIdx (.lst ((kp w :: P).map D.str ++ [.str []])) (.int 1) ν Q=Q (.str (tp w)) ν:=fun ν Q=>by
    have e:(kp w :: P).map D.str ++ [.str []]=(kp w :: P ++ [[]]).map D.str:=by simp
    have e2:ixD ((kp w :: P ++ [[]]).map D.str).length 1=some 1:=by
     unfold ixD; rw [if_pos (by decide),if_pos (by simp; omega)]; rfl
    rw [e]
    simp only [wIdx,seqOf,e2,Option.bind_some,List.getElem?_map,h1,Option.map_some]
   simp only [tlI,wSs,wS,wE,wEs,newL,List.getElem?_cons_zero,List.getElem?_cons_succ,List.set_cons_succ,List.set_cons_zero,wCat,wlOf]
   refine ⟨by decide,by simp only [lim,List.length_map,List.length_cons,List.length_nil] at hPl ⊢; omega,?_⟩
   rw [ix]
   refine ⟨by simp [lim],?_⟩
   simp only [wT,wE,wEs,List.getElem?_cons_zero,List.getElem?_cons_succ]
   refine ⟨_,rfl,?_,?_⟩
   ·show (good μ (.int (num (kp w))) && (good μ (.str (tp w)) && true))=true
    have h2:good μ (.str (tp w))=true:=hp
    rw [h2]; rfl
   ·have e3:isItemD (.tup [.int (num (kp w)),.str (tp w)])=isTagD (.str (tp w)):=by
     show (decide ((tp w).length < 9) && (tp w).all letter)=(decide ((tp w).length≤8) && (tp w).all letter)
     congr 1
     rw [Bool.eq_iff_iff]; simp; omega
    rw [e3,← hbB]
    simp only [wTru,truth]
    by_cases hb:itmB w=true
    ·simp only [hb,Bool.not_true,Bool.false_eq_true,if_false,isCell,hn,wMeth,wMethL,List.length_map]
     refine ⟨trivial,by simp only [lim]; omega,?_⟩
     have:=hgood hb (some (.lst ((kp w :: P).map .str))) (some (.int (num (kp w)))) (some (.tup [.int (num (kp w)),.str (tp w)]))
     have e4:(r ++ [itmW w]).map itD=r.map itD ++ [.tup [.int (num (kp w)),.str (tp w)]]:=by simp [itmW,itD]
     rw [e4] at this
     exact this
    ·have hb':itmB w=false:=by simpa using hb
     simp only [hb',Bool.not_false,if_true]
     exact hbad hb'
  by_cases h58:58∈w
  ·rw [if_pos h58] at hP
   have htp:tp w=postC 58 w:=by unfold tp; rw [if_pos h58]
   by_cases h2:58∈postC 58 w
   ·have hlen:2≤P.length:=by
     rw [← hP,split_count]
     have:=List.one_le_count_iff.mpr h2
     omega
    have:decide ((2:Int) < ((P.length + 1:Nat):Int))=true:=decide_eq_true (by omega)
    simp only [this,if_true]
    refine hbad ?_
    unfold itmB
    rw [htp,tag_colon h2]
    simp
   ·have hP1:P=[tp w]:=by rw [← hP,htp]; exact splitC_no h2
    clear hP
    subst hP1
    have:decide ((2:Int) < ((([tp w]:List (List Nat)).length + 1:Nat):Int))=false:=rfl
    have e2:eqD (.int ((([tp w]:List (List Nat)).length + 1:Nat):Int)) (.int 2)=true:=by rfl
    have i1:∀ (ν:Mem) (Q:QD),wIdx (.lst ([kp w,tp w].map D.str)) (.int 1) ν Q=Q (.str (tp w)) ν:=fun ν Q=>rfl
    simp only [this,Bool.false_eq_true,if_false,e2,if_true,i1]
    refine ⟨rfl,rfl,flat_str hp 60,rfl,?_⟩
    rw [eq_str]
    by_cases h0:tp w=[]
    ·have:(tp w == [])=true:=by rw [h0]; rfl
     simp only [this,if_true]
     refine hbad ?_
     unfold itmB
     rw [h0,decide_eq_true h58]; rfl
    ·have:(tp w == [])=false:=by simpa using h0
     simp only [this,Bool.false_eq_true,if_false]
     exact fin rfl (fun z=>h0 z.2) _
  ·rw [if_neg h58] at hP
   subst hP
   have htp:tp w=[]:=by unfold tp; rw [if_neg h58]
   have h1:decide ((2:Int) < ((([]:List (List Nat)).length + 1:Nat):Int))=false:=by decide
   have e2:eqD (.int ((([]:List (List Nat)).length + 1:Nat):Int)) (.int 2)=false:=by rfl
   simp only [h1,Bool.false_eq_true,if_false,e2]
   refine ⟨rfl,rfl,?_⟩
   exact fin (by rw [htp]; rfl) (fun z=>h58 z.1) _
 ·rw [if_neg hkb]
  simp only [wT,wE,wEs,List.getElem?_cons_zero,List.getElem?_cons_succ,List.set_cons_succ,List.set_cons_zero,wCmp,isNon,wBl,if_true,wSs,wS]
  refine hbad ?_
  unfold itmB
  have:keyB (kp w)=false:=by simpa using hkb
  rw [this]; simp
theorem rd_split {t:List Nat} (h:t≠[]):rdT t=rdW 0 (splitC 32 t):=by unfold rdT; rw [if_neg h]
theorem kL_read:Keeps nL_read iL_read spL_read:=by
 rintro ds μ Q ⟨t,rfl,⟨ht,hl,hc⟩,q⟩
 simp only [iL_read,nL_read,startD,topZ,wSs,wS,wT,wE,wEs,wI,newL,List.map_cons,List.map_nil,List.length_cons,List.length_nil,List.cons_append,List.nil_append,List.getElem?_cons_zero,List.getElem?_cons_succ,List.replicate,List.set_cons_succ,List.set_cons_zero,wCmp,wBl]
 refine ⟨by decide,flat_str ht 60,rfl,?_⟩
 rw [eq_str]
 by_cases h0:t=[]
 ·subst h0
  have:(([]:List Nat) == [])=true:=rfl
  simp only [this,if_true,wFrz,app_c]
  have:=q [.gone]
  simpa [resD,rdT] using this
 ·have h1:(t == [])=false:=by simpa using h0
  simp only [h1,Bool.false_eq_true,if_false]
  refine ⟨tx_sq _ (by decide) (by decide) _ _,split_ok (by simp only [lim]; omega) ?_⟩
  simp only [wEnum,lstOf,seqOf]
  rw [rd_split h0] at q
  have hsl:=split_count 32 t
  have hsm:∀ w∈splitC 32 t,okT w∧w.length < 100000:=fun w hw=>⟨okT_sub ht (split_mem hw),by have:=split_le 32 t w hw; omega⟩
  generalize splitC 32 t=ws at q hsl hsm
  refine wLoop_inv (fun ds ρ μ'=>∃ (a b:List (List Nat)) (x2 x3 x4 x5 x6:Option D),ws=a ++ b∧(∀ w∈a,itmB w=true)∧ds=enumD a.length (b.map .str)∧ρ=[some (.str t),some (.loc μ.length),x2,x3,x4,x5,x6]∧μ'=μ ++ [.lst ((a.map itmW).map itD)]) ?_ ?_ _ _ _ ⟨[],ws,none,none,none,none,none,rfl,by simp,rfl,rfl,rfl⟩
  ·rintro d ds ρ μ1 N hN ⟨a,b,x2,x3,x4,x5,x6,e,hg,e2,rfl,rfl⟩
   refine ⟨trivial,?_⟩
   cases b with
   | nil=>simp [enumD] at e2
   | cons w b =>
    simp only [List.map_cons,enumD,List.cons.injEq] at e2
    obtain ⟨rfl,rfl⟩:=e2
    obtain ⟨hw1,hw2⟩:=hsm w (by rw [e]; simp)
    have hal:a.length < 1000:=by have:=congrArg List.length e; simp at this; omega
    simp only [bindT,List.length_cons,List.length_nil,List.zip_cons_cons,List.zip_nil_left,List.zip_nil_right,List.foldl_cons,List.foldl_nil,List.set_cons_succ,List.set_cons_zero]
    refine ⟨trivial,tlR_ok hw1 hw2 app_c (by simpa using hal) (fun hb=>?_) fun hb x4 x5 x6=>?_⟩
    ·have:=q [.lst ((a.map itmW).map itD)]
     rw [e,rd_bad hg hb] at this
     exact this
    ·refine hN _ _ ⟨a ++ [w],b,_,_,_,_,_,by simp [e],fun v hv=>?_,by simp,rfl,by simp⟩
     rcases List.mem_append.mp hv with z | z
     ·exact hg v z
     ·have:v=w:=by simpa using z
      rw [this]; exact hb
  ·rintro ρ μ1 ⟨a,b,x2,x3,x4,x5,x6,e,hg,e2,rfl,rfl⟩
   refine ⟨trivial,?_⟩
   cases b with
   | cons w b=>simp [enumD] at e2
   | nil =>
    have:ws=a:=by simpa using e
    subst this
    simp only [List.getElem?_cons_zero,List.getElem?_cons_succ,wFrz,app_c]
    have:=q [.gone]
    rw [rd_good hg] at this
    simpa [resD] using this
noncomputable def sp_read_row:DSpX:=fun ds μ Q X=>∃ d:D,ds=[d]∧((∃ t,d = .str t∧TxtOk t∧∀ ν:Mem,match rdT t with | .inl k=>X "NoRow" ["at"] [.int (k:Int)] (μ ++ ν) | .inr r=>Q (.lst (r.map itD)) (μ ++ ν))∨(∃ T,tyOf μ d=some T∧T≠"str")∧X "NoRow" ["at"] [.int 0] μ)
noncomputable def n_read_row:List Str:=["text","row","at","word"]
noncomputable def i_read_row:Ss:=(.cons (.ite (.not (.isin (.var 0) "str")) (.cons (.raisI "NoRow" ["at"] (.cons (.cst (.int 0)) .nil)) .nil) .nil) (.cons (.ite (.cmp .Eq (.var 0) (.cst (.str []))) (.cons (.ret (.lst false .nil)) .nil) .nil) (.cons (.set 1 (.lst true .nil)) (.cons (.for_ [2,3] true (.enum (.sqm "split" (.var 0) (.cons (.cst (.str [32])) .nil))) (.cons (.ite (.or (.cmp .GtE (.var 2) (.gbl "MOST_ITEMS" (.int 200))) (.not (.call "is_item_text" sp_is_item_text (.cons (.var 3) .nil)))) (.cons (.raisI "NoRow" ["at"] (.cons (.var 2) .nil)) .nil) .nil) (.cons (.exp (.meth "append" (.var 1) (.cons (.call "read_item" sp_read_item (.cons (.var 3) .nil)) .nil))) .nil))) (.cons (.ret (.frz (.var 1))) .nil)))))
theorem k_read_row:KeepsX n_read_row i_read_row sp_read_row:=by
 rintro ds μ Q X ⟨d,rfl,h⟩
 simp only [i_read_row,n_read_row,startD,topZX,wSs,wS,wT,wE,wEs,wI,newL,List.map_cons,List.map_nil,List.length_cons,List.length_nil,List.cons_append,List.nil_append,List.getElem?_cons_zero,List.getElem?_cons_succ,List.replicate,List.set_cons_succ,List.set_cons_zero]
 rcases h with ⟨t,rfl,⟨ht,hl,hc⟩,q⟩ | ⟨⟨T,hT,hne⟩,q⟩
 ·simp only [wIsin,tyOf,isTy,beq_self_eq_true,Bool.true_or,wBl,Bool.not_true,Bool.false_eq_true,if_false,wCmp]
  refine ⟨flat_str ht 60,rfl,?_⟩
  rw [eq_str]
  by_cases h0:t=[]
  ·subst h0
   have:(([]:List Nat) == [])=true:=rfl
   simp only [this,if_true]
   have:=q []
   simp [rdT] at this
   exact ⟨by decide,this⟩
  ·have h1:(t == [])=false:=by simpa using h0
   simp only [h1,Bool.false_eq_true,if_false]
   refine ⟨by decide,tx_sq _ (by decide) (by decide) _ _,split_ok (by simp only [lim]; omega) ?_⟩
   simp only [wEnum,lstOf,seqOf]
   rw [rd_split h0] at q
   have hsl:=split_count 32 t
   have hsm:∀ w∈splitC 32 t,okT w∧w.length < 100000:=fun w hw=>⟨okT_sub ht (split_mem hw),by have:=split_le 32 t w hw; omega⟩
   generalize splitC 32 t=ws at q hsl hsm
   refine wLoop_inv (fun ds ρ μ'=>∃ (a b:List (List Nat)) (x2 x3:Option D),ws=a ++ b∧(∀ w∈a,itmB w=true)∧ds=enumD a.length (b.map .str)∧ρ=[some (.str t),some (.loc μ.length),x2,x3]∧μ'=μ ++ [.lst ((a.map itmW).map itD)]) ?_ ?_ _ _ _ ⟨[],ws,none,none,rfl,by simp,rfl,rfl,rfl⟩
   ·rintro d ds ρ μ1 N hN ⟨a,b,x2,x3,e,hg,e2,rfl,rfl⟩
    refine ⟨trivial,?_⟩
    cases b with
    | nil=>simp [enumD] at e2
    | cons w b =>
     simp only [List.map_cons,enumD,List.cons.injEq] at e2
     obtain ⟨rfl,rfl⟩:=e2
     obtain ⟨hw1,hw2⟩:=hsm w (by rw [e]; simp)
     have hal:a.length < 200:=by have:=congrArg List.length e; simp at this; omega
     simp only [bindT,List.length_cons,List.length_nil,List.zip_cons_cons,List.zip_nil_left,List.zip_nil_right,List.foldl_cons,List.foldl_nil,List.set_cons_succ,List.set_cons_zero,List.getElem?_cons_zero,List.getElem?_cons_succ]
     refine ⟨trivial,?_⟩
     have:decide ((200:Int)≤(a.length:Int))=false:=decide_eq_false (by omega)
     simp only [this,Bool.false_eq_true,if_false]
     refine ⟨w,rfl,hw1,?_⟩
     simp only [wTru,truth]
     by_cases hb:itmB w=true
     ·simp only [hb,Bool.not_true,Bool.false_eq_true,if_false,isCell,app_c,true_and]
      obtain ⟨k1,k2⟩:=key_num (item_ok hb).2
      refine ⟨w,num (kp w),rfl,k1,k2,?_⟩
      simp only [wMeth,app_c,wMethL,List.length_map]
      refine ⟨by simp only [lim]; omega,hN _ _ ⟨a ++ [w],b,_,_,by simp [e],fun v hv=>?_,by simp,rfl,?_⟩⟩
      ·rcases List.mem_append.mp hv with z | z
       ·exact hg v z
       ·have:v=w:=by simpa using z
        rw [this]; exact hb
      ·simp [itmW,itD]
     ·have hb':itmB w=false:=by simpa using hb
      simp only [hb',Bool.not_false,if_true]
      have:=q [.lst ((a.map itmW).map itD)]
      rw [e,rd_bad hg hb'] at this
      exact ⟨trivial,this⟩
   ·rintro ρ μ1 ⟨a,b,x2,x3,e,hg,e2,rfl,rfl⟩
    refine ⟨trivial,?_⟩
    cases b with
    | cons w b=>simp [enumD] at e2
    | nil =>
     have:ws=a:=by simpa using e
     subst this
     simp only [List.getElem?_cons_zero,List.getElem?_cons_succ,wFrz,app_c]
     have:=q [.gone]
     rw [rd_good hg] at this
     simpa using this
 ·have hb:isTy T "str" = false:=by
   unfold isTy
   have h1:(T == "str")=false:=by simpa using hne
   rw [h1]
   simp
  simp only [wIsin,hT,hb,wBl,Bool.not_false,if_true]
  exact ⟨trivial,q⟩
end DW.K05
end
section
set_option autoImplicit false
namespace DW.K05
open PySem DW DW.K03 DW.TX
noncomputable def spL_told:DSp:=fun ds μ Q=>∃ d:D,ds=[d]∧((∃ t,d = .str t∧TxtOk t∧∀ ν:Mem,Q (resD (rdT t)) (μ ++ ν))∨(∃ T,tyOf μ d=some T∧T≠"str")∧∀ ν:Mem,Q (.int 0) (μ ++ ν))
noncomputable def nL_told:List Str:=["text","found","e"]
noncomputable def iL_told:Ss:=(.cons (.tryx "PourError" ["NoRow"] 2 (.cons (.setX 1 (.fn "read_row" sp_read_row (.cons (.var 0) .nil))) .nil) (.cons (.ite (.or (.isx (.var 2) true ["NoPlace","NoRoom","NotRising","NoTrace","NoWidth"] [("NoRow",false)]) (.not (.isx (.var 2) false ["ValueError"] [("NoRow",true)]))) (.cons (.ret (.cst .non)) .nil) .nil) (.cons (.ret (.ife (.isx (.var 2) false ["NoRow"] [("NoRow",true)]) (.efl "at" ["NoRow"] (.var 2)) (.cst .non))) .nil))) (.cons (.ret (.var 1)) .nil))
theorem kL_told:Keeps nL_told iL_told spL_told:=by
 rintro ds μ Q ⟨d,rfl,h⟩
 simp only [iL_told,nL_told,startD,topZ,wSs,wS,wXC,wT,wE,wEs,List.map_cons,List.map_nil,List.length_cons,List.length_nil,List.cons_append,List.nil_append,List.getElem?_cons_zero,List.getElem?_cons_succ,List.replicate]
 refine ⟨d,rfl,?_⟩
 rcases h with ⟨t,rfl,ht,q⟩ | ⟨hT,q⟩
 ·refine .inl ⟨t,rfl,ht,fun ν=>?_⟩
  cases e:rdT t with
  | inl k =>
   rw [e] at q
   refine ⟨rfl,?_⟩
   have g:(μ ++ ν ++ [Cell.exc "NoRow" ["at"] [.int (k:Int)]])[(μ ++ ν).length]? = some (.exc "NoRow" ["at"] [.int (k:Int)]):=by simp
   have z:=q (ν ++ [Cell.exc "NoRow" ["at"] [.int (k:Int)]])
   rw [← List.append_assoc] at z
   generalize μ ++ ν ++ [Cell.exc "NoRow" ["at"] [.int (k:Int)]]=μ1 at g z
   simp only [List.set_cons_zero,List.set_cons_succ,List.getElem?_cons_zero,List.getElem?_cons_succ,wIsx,g,List.lookup,wBl,wEfl,lkS,List.length_cons,List.length_nil]
   simpa [lkS,resD] using z
  | inr r =>
   have z:=q ν
   rw [e] at z
   simp only [List.set_cons_zero,List.set_cons_succ,List.getElem?_cons_zero,List.getElem?_cons_succ]
   exact z
 ·refine .inr ⟨hT,rfl,?_⟩
  have g:(μ ++ [Cell.exc "NoRow" ["at"] [.int 0]])[μ.length]? = some (.exc "NoRow" ["at"] [.int 0]):=by simp
  have z:=q [Cell.exc "NoRow" ["at"] [.int 0]]
  generalize μ ++ [Cell.exc "NoRow" ["at"] [.int 0]]=μ1 at g z
  simp only [List.set_cons_zero,List.set_cons_succ,List.getElem?_cons_zero,List.getElem?_cons_succ,wIsx,g,List.lookup,wBl,wEfl,lkS,List.length_cons,List.length_nil]
  simpa [lkS] using z
noncomputable def signs:List Nat:=[48,49,50,51,52,53,54,55,56,57,45,58,32,97,122,58,65,10,46,47,95]
noncomputable def odd20:List (List Nat):=[[],[48],[48,48],[45,48],[45],[48,49],[45,48,49],[49,58],[58,97],[49,58,65],[49,58,97,98,99,100,101,102,103,104,105],[49,58,97,58,98],[43,49],[49,46,48],List.replicate 41 57,45 :: List.replicate 40 57,List.replicate 40 57,[49,58,32,97],[49,95,48],[45,49,58,97]]
noncomputable def Sm (t:List Nat):Prop:=okT t∧t.length≤2000∧t.count 32≤30
noncomputable def spL_bent:DSp:=fun ds μ Q=>∃ (n:Nat) (r:List Itm),ds=[.loc n,.str (txt r)]∧isBox μ n∧(∀ x∈r,ItOk x)∧r.length≤6∧∀ (t:List Nat) (b:Int) (ν:Mem),Sm t→Q (.str t) (bx μ n b ++ ν)
noncomputable def nL_bent:List Str:=["box","text","where","sign","way","odd","words"]
noncomputable def tlP:Ss:=(.cons (.set 6 (.sqm "split" (.var 1) (.cons (.cst (.str [32])) .nil))) (.cons (.setIx (.var 6) (.call "_law_take" spL_take (.cons (.var 0) (.cons (.blt "len" (.cons (.var 6) .nil)) .nil))) (.idx (.var 5) (.call "_law_take" spL_take (.cons (.var 0) (.cons (.cst (.int 20)) .nil))))) (.cons (.ret (.sqm "join" (.cst (.str [32])) (.cons (.var 6) .nil))) .nil)))
noncomputable def tlO:Ss:=(.cons (.set 5 (.lst false (.cons (.cst (.str [])) (.cons (.cst (.str [48])) (.cons (.cst (.str [48,48])) (.cons (.cst (.str [45,48])) (.cons (.cst (.str [45])) (.cons (.cst (.str [48,49])) (.cons (.cst (.str [45,48,49])) (.cons (.cst (.str [49,58])) (.cons (.cst (.str [58,97])) (.cons (.cst (.str [49,58,65])) (.cons (.cst (.str [49,58,97,98,99,100,101,102,103,104,105])) (.cons (.cst (.str [49,58,97,58,98])) (.cons (.cst (.str [43,49])) (.cons (.cst (.str [49,46,48])) (.cons (.bin .Mult (.cst (.str [57])) (.cst (.int 41))) .nil))))))))))))))))) (.cons (.set 5 (.cat false (.var 5) (.lst false (.cons (.bin .Add (.cst (.str [45])) (.bin .Mult (.cst (.str [57])) (.cst (.int 40)))) (.cons (.bin .Mult (.cst (.str [57])) (.cst (.int 40))) (.cons (.cst (.str [49,58,32,97])) (.cons (.cst (.str [49,95,48])) (.cons (.cst (.str [45,49,58,97])) .nil)))))))) tlP))
noncomputable def iL_bent:Ss:=(.cons (.set 2 (.call "_law_take" spL_take (.cons (.var 0) (.cons (.bin .Add (.blt "len" (.cons (.var 1) .nil)) (.cst (.int 1))) .nil)))) (.cons (.set 3 (.idx (.cst (.str [48,49,50,51,52,53,54,55,56,57,45,58,32,97,122,58,65,10,46,47,95])) (.call "_law_take" spL_take (.cons (.var 0) (.cons (.cst (.int 21)) .nil))))) (.cons (.set 4 (.call "_law_take" spL_take (.cons (.var 0) (.cons (.cst (.int 4)) .nil)))) (.cons (.ite (.cmp .Eq (.var 4) (.cst (.int 0))) (.cons (.ret (.bin .Add (.bin .Add (.slc false (.var 1) .nil (.cons (.var 2) .nil)) (.var 3)) (.slc false (.var 1) (.cons (.var 2) .nil) .nil))) .nil) .nil) (.cons (.ite (.cmp .Eq (.var 4) (.cst (.int 1))) (.cons (.ret (.bin .Add (.slc false (.var 1) .nil (.cons (.var 2) .nil)) (.slc false (.var 1) (.cons (.bin .Add (.var 2) (.cst (.int 1))) .nil) .nil))) .nil) .nil) (.cons (.ite (.cmp .Eq (.var 4) (.cst (.int 2))) (.cons (.ret (.bin .Add (.bin .Add (.slc false (.var 1) .nil (.cons (.var 2) .nil)) (.var 3)) (.slc false (.var 1) (.cons (.bin .Add (.var 2) (.cst (.int 1))) .nil) .nil))) .nil) .nil) tlO))))))
theorem lt_get {μ:Mem} {n:Nat} {c:Cell} (h:μ[n]? = some c):n < μ.length:=by
 rcases Nat.lt_or_ge n μ.length with q | q
 ·exact q
 ·rw [List.getElem?_eq_none q] at h; cases h
theorem app_lt {μ ν:Mem} {n:Nat} {d:Cell} (h:μ[n]? = some d):(μ ++ ν)[n]? = some d:=by rw [List.getElem?_append_left (lt_get h)]; exact h
theorem bx_ap {μ ν:Mem} {n:Nat} {b:Int} (h:n < μ.length):bx (μ ++ ν) n b=bx μ n b ++ ν:=by unfold bx; rw [List.set_append_left _ _ h]
theorem set_snoc' {μ:Mem} {c c':Cell}:(μ ++ [c]).set μ.length c'=μ ++ [c']:=by simp
theorem txt_cnt {r:List Itm} (h:∀ x∈r,ItOk x):(txt r).count 32≤r.length:=by
 by_cases h0:r=[]
 ·subst h0; decide
 ·have hsp:splitC 32 (txt r)=r.map shw:=split_join (by simpa using h0) fun w hw=>by
   obtain ⟨x,hx,rfl⟩:=List.mem_map.mp hw
   exact (shw_ok (h x hx)).2.2.1
  have:=split_count 32 (txt r)
  rw [hsp,List.length_map] at this
  omega
theorem Sm.part {t a s b:List Nat} (ht:Sm t) (hs:okT s∧s.length≤60∧s.count 32≤2) (ha:a.Sublist t) (hb:b.Sublist t) (h1:t.length≤500) (h2:t.count 32≤8):Sm (a ++ s ++ b):=by
 refine ⟨okT_app (okT_app (okT_sub ht.1 fun c hc=>ha.subset hc) hs.1) (okT_sub ht.1 fun c hc=>hb.subset hc),?_,?_⟩
 ·have:=ha.length_le; have:=hb.length_le; simp; omega
 ·have:=ha.count_le 32; have:=hb.count_le 32
  rw [List.count_append,List.count_append]; omega
theorem join_cnt:∀ {ws:List (List Nat)},(∀ w∈ws,w.count 32≤1)→(joinC [32] ws).count 32≤2 * ws.length
 | [],_=>by simp [joinC]
 | [w],h=>by have:=h w (by simp); simp [joinC]; omega
 | w :: v :: r,h=>by
  have ih:=join_cnt (ws:=v :: r) fun u hu=>h u (by simp only [List.mem_cons] at hu ⊢; exact .inr hu)
  have:=h w (by simp)
  simp only [joinC,List.count_append,List.length_cons] at ih ⊢
  have e:([32]:List Nat).count 32=1:=by decide
  omega
theorem sum_len {B:Nat}:∀ {ws:List (List Nat)},(∀ w∈ws,w.length≤B)→(ws.map List.length).sum≤ws.length * B
 | [],_=>by simp
 | w :: ws,h=>by
  have:=sum_len (ws:=ws) fun u hu=>h u (by simp [hu])
  have:=h w (by simp)
  simp only [List.map_cons,List.sum_cons,List.length_cons,Nat.add_mul]
  omega
theorem odd_ok:∀ o∈odd20,(o.all (· < 1114112) && decide (o.length≤60) && decide (o.count 32≤1))=true:=by decide
theorem idx_strs {l:List (List Nat)} {i:Nat} (h:i < l.length) (ν:Mem) (Q:QD):wIdx (.lst (l.map D.str)) (.int (i:Int)) ν Q=Q (.str l[i]) ν:=by
 have:ixD (l.map D.str).length (i:Int)=some i:=ixD_nat (by simpa using h)
 simp only [wIdx,seqOf,this,Option.bind_some,List.getElem?_map,List.getElem?_eq_getElem h,Option.map_some]
theorem set_box {μ:Mem} {c d:Cell} {n:Nat} {b:Int} (h:n < μ.length):(bx μ n b ++ [c]).set μ.length d=bx μ n b ++ [d]:=by
 have:=set_snoc' (μ:=bx μ n b) (c:=c) (c':=d)
 rwa [bx_len] at this
theorem tlP_ok {Q:QD} {n:Nat} {r:List Itm} {μ:Mem} {x2 x3 x4 x6:Option D} (hb:isBox μ n) (hr:∀ x∈r,ItOk x) (hl:r.length≤6) (q:∀ (t:List Nat) (b:Int) (ν:Mem),Sm t→Q (.str t) (bx μ n b ++ ν)) :
  wSs tlP (topZ Q) [some (.loc n),some (.str (txt r)),x2,x3,x4,some (.lst (odd20.map D.str)),x6] μ:=by
 have hn:n < μ.length:=by obtain ⟨b,h⟩:=hb; exact lt_get h
 simp only [tlP,topZ,wSs,wS,wE,wEs,List.getElem?_cons_zero,List.getElem?_cons_succ,List.set_cons_succ,List.set_cons_zero]
 refine ⟨tx_sq _ (by decide) (by decide) _ _,⟨⟨by decide,by have:=txt_len hr; simp only [lim]; omega⟩,true,?_⟩⟩
 simp only [newL]
 have hws:∀ w∈splitC 32 (txt r),okT w∧w.length≤60∧w.count 32≤1:=by
  by_cases h0:r=[]
  ·subst h0
   intro w hw
   have:w=[]:=by simpa [txt,joinC,splitC] using hw
   subst this
   exact ⟨rfl,by simp,by simp⟩
  ·have hsp:splitC 32 (txt r)=r.map shw:=split_join (by simpa using h0) fun w hw=>by
    obtain ⟨x,hx,rfl⟩:=List.mem_map.mp hw
    exact (shw_ok (hr x hx)).2.2.1
   rw [hsp]
   intro w hw
   obtain ⟨x,hx,rfl⟩:=List.mem_map.mp hw
   obtain ⟨a,b,c,_⟩:=shw_ok (hr x hx)
   exact ⟨a,by omega,by rw [List.count_eq_zero_of_not_mem c]; omega⟩
 have hwl:(splitC 32 (txt r)).length≤7:=by rw [split_count]; have:=txt_cnt hr; omega
 have hw1:1≤(splitC 32 (txt r)).length:=by rw [split_count]; omega
 generalize splitC 32 (txt r)=ws at hws hwl hw1
 have hbA:isBox (μ ++ [Cell.lst (ws.map D.str)]) n:=by obtain ⟨b,h⟩:=hb; exact ⟨b,app_lt h⟩
 refine ⟨hbA,by decide,by decide,fun j b1 j0 j1=>?_⟩
 obtain ⟨j,rfl⟩:=Int.eq_ofNat_of_zero_le j0
 have hj:j < odd20.length:=by show j < 20; omega
 rw [idx_strs hj]
 generalize ho:odd20[j]=o
 have hom:o∈odd20:=by rw [← ho]; exact List.getElem_mem hj
 have hok:=odd_ok o hom
 simp only [Bool.and_eq_true,decide_eq_true_eq] at hok
 rw [bx_ap hn]
 have hg:∀ b,(bx μ n b ++ [Cell.lst (ws.map D.str)])[μ.length]? = some (.lst (ws.map D.str)):=fun b=>by
  have:=app_c (μ:=bx μ n b) (c:=Cell.lst (ws.map D.str)); rwa [bx_len] at this
 have hlen:∀ (Q:QD) b,Q (.int (ws.length:Int)) (bx μ n b ++ [Cell.lst (ws.map D.str)])→wBlt "len" [.loc μ.length] (bx μ n b ++ [Cell.lst (ws.map D.str)]) Q:=fun Q b z=>by
  simpa [wBlt,lenOf,seqOf,hg] using z
 refine hlen _ _ ?_
 have hbB:isBox (bx μ n b1 ++ [Cell.lst (ws.map D.str)]) n:=by obtain ⟨b,h⟩:=isBox_bx (b:=b1) hb; exact ⟨b,app_lt h⟩
 refine ⟨hbB,by omega,by omega,fun i b2 i0 i1=>?_⟩
 obtain ⟨i,rfl⟩:=Int.eq_ofNat_of_zero_le i0
 have hi:i < ws.length:=by omega
 rw [bx_ap (by rw [bx_len]; exact hn),bx_bx]
 have hix:ixD (ws.map D.str).length (i:Int)=some i:=ixD_nat (by simpa using hi)
 simp only [wSetIx,hg,hix]
 rw [set_box hn]
 have es:(ws.map D.str).set i (.str o)=(ws.set i o).map D.str:=by rw [List.map_set]
 rw [es]
 have hv:∀ w∈ws.set i o,okT w∧w.length≤60∧w.count 32≤1:=fun w hw=>by
  rcases List.mem_or_eq_of_mem_set hw with h | h
  ·exact hws w h
  ·rw [h]; exact ⟨hok.1.1,hok.1.2,hok.2⟩
 have hvl:(ws.set i o).length≤7:=by simpa using hwl
 generalize ws.set i o=vs at hv hvl
 refine ⟨tx_sq _ (by decide) (by decide) _ _,?_⟩
 have hS:Sm (joinC [32] vs):=by
  refine ⟨okT_mem.mpr fun c hc=>?_,?_,?_⟩
  ·rcases join_mem hc with h | ⟨w,hw,h⟩
   ·have:c=32:=by simpa using h
    omega
   ·exact okT_mem.mp (hv w hw).1 c h
  ·have h1:=join_len [32] vs
   have h2:=sum_len (B:=60) fun w hw=>(hv w hw).2.1
   simp at h1
   omega
  ·have:=join_cnt fun w hw=>(hv w hw).2.2
   omega
 have e0:wSqm "join" (.str [32]) [.loc μ.length] (bx μ n b2 ++ [Cell.lst (vs.map D.str)]) Q=wTxt "join" (.str [32]) [.loc μ.length] (bx μ n b2 ++ [Cell.lst (vs.map D.str)]) Q:=rfl
 rw [e0]
 have hg2:(bx μ n b2 ++ [Cell.lst (vs.map D.str)])[μ.length]? = some (.lst (vs.map D.str)):=by
  have:=app_c (μ:=bx μ n b2) (c:=Cell.lst (vs.map D.str)); rwa [bx_len] at this
 simp only [wTxt,lstOf,seqOf,hg2,Option.bind_some,strsD_map]
 refine ⟨trivial,?_,q _ _ _ hS⟩
 have h2:=sum_len (B:=60) fun w hw=>(hv w hw).2.1
 simp only [List.length_cons,List.length_nil,lim]
 omega
theorem tlO_ok {Q:QD} {n:Nat} {r:List Itm} {μ:Mem} {x2 x3 x4 x5 x6:Option D} (hb:isBox μ n) (hr:∀ x∈r,ItOk x) (hl:r.length≤6) (q:∀ (t:List Nat) (b:Int) (ν:Mem),Sm t→Q (.str t) (bx μ n b ++ ν)) :
  wSs tlO (topZ Q) [some (.loc n),some (.str (txt r)),x2,x3,x4,x5,x6] μ:=by
 simp only [tlO,topZ,wSs,wS,wE,wEs,newL,wBin,wCat,wlOf,List.getElem?_cons_zero,List.getElem?_cons_succ,List.set_cons_succ,List.set_cons_zero,List.length_cons,List.length_nil]
 refine ⟨⟨by decide,by decide,by decide,by decide⟩,by decide,⟨by decide,by decide,by decide,by decide⟩,by decide,⟨by decide,by decide,by decide,by decide⟩,by decide,by decide,?_⟩
 exact tlP_ok hb hr hl q
theorem kL_bent:Keeps nL_bent iL_bent spL_bent:=by
 rintro ds μ Q ⟨n,r,rfl,hb,hr,hl,q⟩
 have ln:∀ (ν:Mem) (Q:QD),wBlt "len" [.str (txt r)] ν Q=Q (.int ((txt r).length:Int)) ν:=fun ν Q=>by simp [wBlt,lenOf]
 have htl:=txt_len hr
 have htc:=txt_cnt hr
 have hto:=txt_ok hr
 have hSm:Sm (txt r):=⟨hto,by omega,by omega⟩
 simp only [iL_bent,nL_bent,startD,wSs,wS,wE,wEs,wBin,List.map_cons,List.map_nil,List.length_cons,List.length_nil,List.cons_append,List.nil_append,List.getElem?_cons_zero,List.getElem?_cons_succ,List.replicate,List.set_cons_succ,List.set_cons_zero,ln]
 refine ⟨hb,by omega,by omega,fun wh b1 w0 w1=>?_⟩
 refine ⟨isBox_bx hb,by decide,by decide,fun j b2 j0 j1=>?_⟩
 obtain ⟨j,rfl⟩:=Int.eq_ofNat_of_zero_le j0
 have hj:j < signs.length:=by show j < 21; omega
 have hix:∀ (ν:Mem) (Q:QD),wIdx (.str [48,49,50,51,52,53,54,55,56,57,45,58,32,97,122,58,65,10,46,47,95]) (.int (j:Int)) ν Q=Q (.str [signs[j]]) ν:=fun ν Q=>by
  have:ixD signs.length (j:Int)=some j:=ixD_nat hj
  show wIdx (.str signs) (.int (j:Int)) ν Q=_
  simp only [wIdx,this,Option.bind_some,List.getElem?_eq_getElem hj]
 rw [hix]
 generalize hs:signs[j]=s
 have hsm:s∈signs:=by rw [← hs]; exact List.getElem_mem hj
 have hso:okT [s]∧[s].length≤60∧[s].count 32≤2:=by
  refine ⟨okT_mem.mpr fun c hc=>?_,by simp,?_⟩
  ·have:c=s:=by simpa using hc
   subst this
   have:∀ c∈signs,c < 1114112:=by decide
   exact this c hsm
  ·exact Nat.le_trans List.count_le_length (by simp)
 refine ⟨isBox_bx (isBox_bx hb),by decide,by decide,fun way b3 y0 y1=>?_⟩
 rw [bx_bx,bx_bx]
 have hbx:isBox (bx μ n b3) n:=isBox_bx hb
 have q':∀ t,Sm t→Q (.str t) (bx μ n b3):=fun t ht=>by have:=q t b3 [] ht; simpa using this
 have hE:∀ t:List Nat,Sm t→t.length≤2000:=fun t h=>h.2.1
 have hno:okT ([]:List Nat)∧([]:List Nat).length≤60∧([]:List Nat).count 32≤2:=⟨rfl,by simp,by simp⟩
 have hw:way=0∨way=1∨way=2∨way=3:=by omega
 have slt:∀ {i:Int} (m:Bool) (ν:Mem) (Q:QD),0≤i→Q (.str ((txt r).take i.toNat)) ν→wSlc m (.str (txt r)) none (some i) ν Q:=fun m ν Q h z=>slc_to h z
 have slf:∀ {i:Int} (m:Bool) (ν:Mem) (Q:QD),0≤i→Q (.str ((txt r).drop i.toNat)) ν→wSlc m (.str (txt r)) (some i) none ν Q:=fun m ν Q h z=>slc_from h z
 simp only [wT,wE,wCmp,flat,eqD,wBl,true_and,List.getElem?_cons_zero,List.getElem?_cons_succ]
 rcases hw with rfl | rfl | rfl | rfl
 ·simp only [beq_self_eq_true,if_true,wSs,wS,wE,wO,wInt,topZ,List.getElem?_cons_zero,List.getElem?_cons_succ]
  refine slt _ _ _ w0 ?_
  simp only
  refine ⟨by simp [lim]; omega,slf _ _ _ w0 ?_⟩
  simp only
  refine ⟨by simp [lim]; omega,q' _ (hSm.part hso (List.take_sublist _ _) (List.drop_sublist _ _) (by omega) (by omega))⟩
 ·have e1:((1:Int) == 0)=false:=rfl
  simp only [e1,Bool.false_eq_true,if_false,beq_self_eq_true,if_true,wSs,wS,wE,wO,wInt,wBin,topZ,List.getElem?_cons_zero,List.getElem?_cons_succ]
  refine slt _ _ _ w0 (slf _ _ _ (by omega) ?_)
  simp only
  have:=q' _ (hSm.part (s:=[]) hno (List.take_sublist wh.toNat (txt r)) (List.drop_sublist (wh + 1).toNat (txt r)) (by omega) (by omega))
  exact ⟨by simp [lim]; omega,by simpa using this⟩
 ·have e1:((2:Int) == 0)=false:=rfl
  have e2:((2:Int) == 1)=false:=rfl
  simp only [e1,e2,Bool.false_eq_true,if_false,beq_self_eq_true,if_true,wSs,wS,wE,wO,wInt,wBin,topZ,List.getElem?_cons_zero,List.getElem?_cons_succ]
  refine slt _ _ _ w0 ?_
  simp only
  refine ⟨by simp [lim]; omega,slf _ _ _ (by omega) ?_⟩
  simp only
  refine ⟨by simp [lim]; omega,q' _ (hSm.part hso (List.take_sublist _ _) (List.drop_sublist _ _) (by omega) (by omega))⟩
 ·have e1:((3:Int) == 0)=false:=rfl
  have e2:((3:Int) == 1)=false:=rfl
  have e3:((3:Int) == 2)=false:=rfl
  simp only [e1,e2,e3,Bool.false_eq_true,if_false]
  refine tlO_ok hbx hr hl fun t b ν ht=>?_
  rw [bx_bx]; exact q t b ν ht
end DW.K05
end
section
set_option autoImplicit false
namespace DW.K05
open PySem DW DW.K03 DW.TX
noncomputable def tlS:Ss:=(.cons (.set 6 (.call "_law_read" spL_read (.cons (.var 5) .nil))) (.cons (.set 7 (.call "_law_told" spL_told (.cons (.var 5) .nil))) (.cons (.ite (.and (.isin (.var 6) "list") (.not (.call "_law_is_list" spL_is_list (.cons (.var 7) (.cons (.var 6) .nil))))) (.cons (.ret (.cst (.bl false))) .nil) .nil) (.cons (.ite (.and (.not (.isin (.var 6) "list")) (.or (.not (.call "_law_whole" spL_whole (.cons (.var 7) .nil))) (.cmp .NotEq (.var 7) (.var 6)))) (.cons (.ret (.cst (.bl false))) .nil) .nil) .nil))))
noncomputable def tlQ:Ss:=(.cons (.ite (.and (.not (.isin (.var 4) "str")) (.or (.not (.call "_law_whole" spL_whole (.cons (.call "_law_told" spL_told (.cons (.var 4) .nil)) .nil))) (.cmp .NotEq (.call "_law_told" spL_told (.cons (.var 4) .nil)) (.cst (.int 0))))) (.cons (.ret (.cst (.bl false))) .nil) .nil) (.cons (.ite (.cmp .NotEq (.call "_law_told" spL_told (.cons (.lst false (.cons (.var 3) .nil)) .nil)) (.cst (.int 0))) (.cons (.ret (.cst (.bl false))) .nil) .nil) .nil))
noncomputable def n_law:List Str:=["script","k","box","text","odd","some","due","found"]
noncomputable def i_law:Ss:=(.cons (.for_ [1] false (.rng (.cons (.blt "max" (.cons (.cst (.int 1)) (.cons (.blt "min" (.cons (.blt "len" (.cons (.var 0) .nil)) (.cons (.cst (.int 6)) .nil))) .nil))) .nil)) (.cons (.set 2 (.call "_law_box" spL_box (.cons (.var 0) (.cons (.var 1) .nil)))) (.cons (.set 3 (.call "_law_text" spL_text (.cons (.call "_law_row" spL_row (.cons (.var 2) (.cons (.cst (.int 6)) .nil))) .nil))) (.cons (.set 4 (.call "_law_odd" spL_odd (.cons (.var 2) .nil))) (.cons (.for_ [5] false (.seq (.lst false (.cons (.call "_law_bent" spL_bent (.cons (.var 2) (.cons (.var 3) .nil))) (.cons (.call "_law_bent" spL_bent (.cons (.var 2) (.cons (.var 3) .nil))) (.cons (.bin .Add (.cst (.str [32])) (.var 3)) (.cons (.bin .Add (.var 3) (.cst (.str [32]))) (.cons (.var 3) .nil))))))) tlS) tlQ))))) (.cons (.ret (.cst (.bl true))) .nil))
theorem Sm.ok {t:List Nat} (h:Sm t):TxtOk t:=⟨h.1,by have:=h.2.1; omega,by have:=h.2.2; omega⟩
theorem rd_items:∀ {ws:List (List Nat)} {k:Nat} {r:List Itm},rdW k ws = .inr r→∀ x∈r,okI x
 | [],k,r,h,x,hx=>by
  simp [rdW] at h
  subst h
  simp at hx
 | w :: ws,k,r,h,x,hx=>by
  unfold rdW at h
  by_cases hw:itmB w=true
  ·rw [if_pos hw] at h
   cases q:rdW (k + 1) ws with
   | inl n=>rw [q] at h; cases h
   | inr r' =>
    rw [q] at h
    cases h
    rcases List.mem_cons.mp hx with e | hx
    ·rw [e]; exact (item_ok hw).1
    ·exact rd_items q x hx
  ·rw [if_neg hw] at h; cases h
theorem rdT_items {t:List Nat} {r:List Itm} (h:rdT t = .inr r):∀ x∈r,okI x:=by
 unfold rdT at h
 split at h
 ·cases h; simp
 ·exact rd_items h
theorem tlS_ok {Z:DEnds} {v0 v1 v2 v3 v4 x6 x7:Option D} {t:List Nat} {μ:Mem} (ht:Sm t) (hZ:∀ x6 x7 ν,Z.nx [v0,v1,v2,v3,v4,some (.str t),x6,x7] (μ ++ ν)) :
  wSs tlS Z [v0,v1,v2,v3,v4,some (.str t),x6,x7] μ:=by
 simp only [tlS,wSs,wS,wE,wEs,List.getElem?_cons_zero,List.getElem?_cons_succ,List.set_cons_succ,List.set_cons_zero]
 refine ⟨t,rfl,ht.ok,fun ν1=>⟨.str t,rfl,.inl ⟨t,rfl,ht.ok,fun ν2=>?_⟩⟩⟩
 have z:∀ x6 x7,Z.nx [v0,v1,v2,v3,v4,some (.str t),x6,x7] (μ ++ ν1 ++ ν2):=fun x6 x7=>by
  have:=hZ x6 x7 (ν1 ++ ν2); rwa [← List.append_assoc] at this
 generalize μ ++ ν1 ++ ν2=μ2 at z
 cases e:rdT t with
 | inl k =>
  have h1:isTy "int" "list" = false:=by decide
  simp only [resD,wT,wE,wEs,wIsin,tyOf,h1,wBl,Bool.false_eq_true,if_false,Bool.not_false,if_true,List.getElem?_cons_zero,List.getElem?_cons_succ,List.set_cons_succ,List.set_cons_zero,spL_whole,wTru,truth,Bool.not_true]
  refine wNe_of rfl rfl ?_
  simp only [eqD,beq_self_eq_true,Bool.not_true,Bool.false_eq_true,if_false]
  exact z _ _
 | inr r =>
  have h1:isTy "list" "list" = true:=by decide
  simp only [resD,wT,wE,wEs,wIsin,tyOf,h1,wBl,if_true,List.getElem?_cons_zero,List.getElem?_cons_succ,List.set_cons_succ,List.set_cons_zero]
  refine ⟨_,r,rfl,rfl,rdT_items e,?_⟩
  simp only [wTru,truth,Bool.not_true,Bool.false_eq_true,if_false]
  exact z _ _
theorem told_no {d:D} {T:String} {μ:Mem} {Q:QD} (h:tyOf μ d=some T) (hn:T≠"str") (q:∀ ν:Mem,Q (.int 0) (μ ++ ν)):spL_told [d] μ Q:=⟨d,rfl,.inr ⟨⟨T,h,hn⟩,q⟩⟩
theorem tlQ_ok {Z:DEnds} {v0 v1 v2 x5 x6 x7:Option D} {t:List Nat} {o:D} {T:String} {μ:Mem} (hT:∀ ν:Mem,tyOf (μ ++ ν) o=some T) (hZ:∀ ν,Z.nx [v0,v1,v2,some (.str t),some o,x5,x6,x7] (μ ++ ν)) :
  wSs tlQ Z [v0,v1,v2,some (.str t),some o,x5,x6,x7] μ:=by
 have hT0:tyOf μ o=some T:=by have:=hT []; simpa using this
 simp only [tlQ,wSs,wS,wT,wE,wEs,newL,List.getElem?_cons_zero,List.getElem?_cons_succ,wIsin,hT0,wBl]
 have last:∀ ν:Mem,spL_told [.lst [.str t]] (μ ++ ν) fun x μ1=>wCmp .NotEq x (.int 0) μ1 fun r μ3=>match r with | .bl b=>(if b=true then Z.rt (.bl false) μ3 else Z.nx [v0,v1,v2,some (.str t),some o,x5,x6,x7] μ3) | _=>False:=fun ν=>by
  refine told_no (T:="list") rfl (by decide) fun ν2=>?_
  refine wNe_of rfl rfl ?_
  simp only [eqD,beq_self_eq_true,Bool.not_true,Bool.false_eq_true,if_false]
  have:=hZ (ν ++ ν2); rwa [← List.append_assoc] at this
 by_cases hs:T = "str"
 ·subst hs
  have h1:isTy "str" "str" = true:=by decide
  simp only [h1,Bool.not_true,Bool.false_eq_true,if_false]
  have:=last []
  rw [List.append_nil] at this
  exact ⟨by simp [lim],this⟩
 ·have h1:isTy T "str" = false:=by
   unfold isTy
   have h1:(T == "str")=false:=by simpa using hs
   rw [h1]; simp
  simp only [h1,Bool.not_false,if_true]
  refine told_no hT0 hs fun ν1=>?_
  simp only [spL_whole,wTru,truth,Bool.not_true,Bool.false_eq_true,if_false]
  refine told_no (hT ν1) hs fun ν2=>?_
  refine wNe_of rfl rfl ?_
  simp only [eqD,beq_self_eq_true,Bool.not_true,Bool.false_eq_true,if_false]
  have:=last (ν1 ++ ν2)
  rw [← List.append_assoc] at this
  exact ⟨by simp [lim],this⟩
theorem odds_ty {o:D} {m:Nat} (h:o∈odds m):∃ T,∀ μ:Mem,(∃ ks ds,μ[m]? = some (.dic ks ds))→tyOf μ o=some T:=by
 simp only [odds,List.mem_cons,List.not_mem_nil,or_false] at h
 rcases h with rfl | rfl | rfl | rfl | rfl | rfl | rfl | rfl | rfl | rfl | rfl | rfl | rfl | rfl | rfl | rfl
 all_goals first
  | exact ⟨_,fun μ _=>rfl⟩
  | exact ⟨"dict",fun μ ⟨ks,ds,e⟩=>by simp only [tyOf,e]⟩
theorem k_law:Keeps n_law i_law spLaw:=by
 rintro ds μ Q ⟨ns,rfl,hl,h⟩
 have hlo:(ns.length:Int)≤63:=by omega
 simp only [i_law,n_law,startD,topZ,wSs,wS,wE,wEs,wI,newL,wSeq,wBlt,lenOf,seqOf,wRng,esLen,List.map_cons,List.map_nil,List.length_cons,List.length_nil,List.cons_append,List.nil_append,List.getElem?_cons_zero,List.length_map,Option.map_some]
 refine ⟨?_,?_,?_⟩
 ·simp only [lim]; split <;> split <;> omega
 ·split <;> split <;> omega
 refine wLoop_inv (fun ds ρ μ'=>(∀ d∈ds,∃ i:Int,d = .int i∧0≤i)∧∃ a b c d e f g,ρ=[some (.ro (ns.map D.int)),a,b,c,d,e,f,g]) ?_ ?_ _ _ _ ⟨?_,none,none,none,none,none,none,none,rfl⟩
 ·rintro d ds ρ μ1 N hN ⟨hd,a1,a2,a3,a4,a5,a6,a7,rfl⟩
  obtain ⟨k,rfl,k0⟩:=hd d (by simp)
  have nx:∀ ρ μ,(∃ a b c d e f g,ρ=[some (.ro (ns.map D.int)),a,b,c,d,e,f,g])→N ρ μ:=fun ρ μ q=>hN ρ μ ⟨fun d hd'=>hd d (by simp [hd']),q⟩
  refine ⟨trivial,?_⟩
  simp only [bindT,List.set_cons_succ,List.set_cons_zero,List.getElem?_cons_zero,List.getElem?_cons_succ]
  refine ⟨ns,rfl,by omega,k0,fun b0=>?_⟩
  have hb0:isBox (μ1 ++ [Cell.lst [.int b0]]) μ1.length:=isBox_new
  generalize μ1 ++ [Cell.lst [.int b0]]=μ2 at hb0
  generalize μ1.length=n at hb0
  refine ⟨hb0,by decide,by decide,fun r b1 hrl hr=>?_⟩
  refine ⟨r,rfl,hr,by omega,fun c1=>?_⟩
  simp only [List.set_cons_succ,List.set_cons_zero,List.getElem?_cons_zero,List.getElem?_cons_succ]
  have hb1:isBox (bx μ2 n b1 ++ [c1]) n:=by obtain ⟨b,h⟩:=isBox_bx (b:=b1) hb0; exact ⟨b,app_lt h⟩
  generalize bx μ2 n b1 ++ [c1]=μ3 at hb1
  refine ⟨hb1,fun o b2 ho=>?_⟩
  have hn3:n < μ3.length:=by obtain ⟨b,h⟩:=hb1; exact lt_get h
  obtain ⟨T,hT⟩:=odds_ty ho
  have hb2:isBox (bx (μ3 ++ [Cell.dic [.inr [97]] [.int 1]]) n b2) n:=isBox_bx (by obtain ⟨b,h⟩:=hb1; exact ⟨b,app_lt h⟩)
  have hdic:(bx (μ3 ++ [Cell.dic [.inr [97]] [.int 1]]) n b2)[μ3.length]? = some (.dic [.inr [97]] [.int 1]):=by
   rw [bx_ap hn3]
   have:=app_c (μ:=bx μ3 n b2) (c:=Cell.dic [.inr [97]] [.int 1]); rwa [bx_len] at this
  generalize bx (μ3 ++ [Cell.dic [.inr [97]] [.int 1]]) n b2=μ4 at hb2 hdic
  have hn4:n≠μ3.length:=by omega
  generalize μ3.length=m at hdic hT hn4
  have htl:=txt_len hr
  have htc:=txt_cnt hr
  refine ⟨n,r,rfl,hb2,hr,by omega,fun t1 b3 ν1 s1=>?_⟩
  have hb3:isBox (bx μ4 n b3 ++ ν1) n:=by obtain ⟨b,h⟩:=isBox_bx (b:=b3) hb2; exact ⟨b,app_lt h⟩
  have hd3:(bx μ4 n b3 ++ ν1)[m]? = some (.dic [.inr [97]] [.int 1]):=app_lt (by unfold bx; rw [List.getElem?_set_ne hn4]; exact hdic)
  generalize bx μ4 n b3 ++ ν1=μ5 at hb3 hd3
  refine ⟨n,r,rfl,hb3,hr,by omega,fun t2 b4 ν2 s2=>?_⟩
  have hd4:(bx μ5 n b4 ++ ν2)[m]? = some (.dic [.inr [97]] [.int 1]):=app_lt (by unfold bx; rw [List.getElem?_set_ne hn4]; exact hd3)
  generalize bx μ5 n b4 ++ ν2=μ6 at hd4
  simp only [wBin,List.length_cons,List.length_nil,List.cons_append,List.nil_append]
  refine ⟨by simp only [lim]; omega,by simp only [lim]; omega,by decide,?_⟩
  have s0:Sm (txt r):=⟨txt_ok hr,by omega,by omega⟩
  have s3:Sm (32 :: txt r):=⟨okT_app (a:=[32]) rfl s0.1,by simp; omega,by simp; omega⟩
  have c1:([32]:List Nat).count 32=1:=by decide
  have s4:Sm (txt r ++ [32]):=⟨okT_app s0.1 rfl,by simp; omega,by rw [List.count_append]; omega⟩
  have el:[D.str t1,.str t2,.str (32 :: txt r),.str (txt r ++ [32]),.str (txt r)]=[t1,t2,32 :: txt r,txt r ++ [32],txt r].map D.str:=rfl
  rw [el]
  refine wLoop_pre D.str [t1,t2,32 :: txt r,txt r ++ [32],txt r] (fun pre ρ μ'=>∃ e f g ν,ρ=[some (.ro (ns.map D.int)),some (.int k),some (.loc n),some (.str (txt r)),some o,e,f,g]∧μ'=μ6 ++ ν) ?_ ?_ _ _ ⟨_,_,_,[],rfl,by simp⟩
  ·rintro pre t post e ρ μ7 N2 hN2 ⟨e',f,g,ν,rfl,rfl⟩
   refine ⟨trivial,?_⟩
   have hm:t∈[t1,t2,32 :: txt r,txt r ++ [32],txt r]:=by rw [e]; simp
   have st:Sm t:=by
    simp only [List.mem_cons,List.not_mem_nil,or_false] at hm
    rcases hm with rfl | rfl | rfl | rfl | rfl
    ·exact s1
    ·exact s2
    ·exact s3
    ·exact s4
    ·exact s0
   simp only [bindT,List.set_cons_succ,List.set_cons_zero]
   refine tlS_ok st fun x6 x7 ν2=>hN2 _ _ ⟨_,_,_,ν ++ ν2,rfl,by simp⟩
  ·rintro ρ μ7 ⟨e',f,g,ν,rfl,rfl⟩
   refine ⟨trivial,?_⟩
   refine tlQ_ok (T:=T) (fun ν2=>hT _ ⟨_,_,app_lt (app_lt hd4)⟩) fun ν2=>nx _ _ ⟨_,_,_,_,_,_,_,rfl⟩
 ·rintro ρ μ1 ⟨-,a,b,c,d,e,f,g,rfl⟩
  exact ⟨trivial,h _⟩
 ·intro d hd
  obtain ⟨i,rfl,h0,_⟩:=rangeL_mem hd
  exact ⟨i,rfl,h0⟩
end DW.K05
end
namespace DW.K05
open PySem L2 DW DW.K03 DW.TX
noncomputable def top (i:Nat):Stmt:=PySem.Challenge.pw_pourwright_k05_texts_refused.main.body.getD i (.Pass ⟨0,0,0,0⟩)
noncomputable def blts:List Str:=["isinstance","str","len","all","int","enumerate","abs","range","divmod","bool","tuple","list","zip","ValueError","max","min"]
noncomputable abbrev s_is_tag:Stmt:=top 11
noncomputable def p_is_tag:List Str:=["thing"]
theorem sc_is_tag:FnScope n_is_tag p_is_tag (defScope s_is_tag):=⟨rfl,rfl,rfl,by decide +kernel,rfl,by decide +kernel,by decide +kernel⟩
theorem m_is_tag:mSs (Ctx.of n_is_tag (defScope s_is_tag).names blts) i_is_tag (defBody s_is_tag)=true:=by decide +kernel
theorem ar_is_tag:∀ ds μ Q,sp_is_tag ds μ Q→ds.length=p_is_tag.length:=by
 intro ds μ Q h
 unfold sp_is_tag at h
 obtain ⟨_,rfl,_⟩:=h; rfl
noncomputable abbrev s_are_figures:Stmt:=top 14
noncomputable def p_are_figures:List Str:=["text"]
theorem sc_are_figures:FnScope n_are_figures p_are_figures (defScope s_are_figures):=⟨rfl,rfl,rfl,by decide +kernel,rfl,by decide +kernel,by decide +kernel⟩
theorem m_are_figures:mSs (Ctx.of n_are_figures (defScope s_are_figures).names blts) i_are_figures (defBody s_are_figures)=true:=by decide +kernel
theorem ar_are_figures:∀ ds μ Q,sp_are_figures ds μ Q→ds.length=p_are_figures.length:=by
 intro ds μ Q h
 unfold sp_are_figures at h
 obtain ⟨_,rfl,_⟩:=h; rfl
noncomputable abbrev s_read_item:Stmt:=top 17
noncomputable def p_read_item:List Str:=["word"]
theorem sc_read_item:FnScope n_read_item p_read_item (defScope s_read_item):=⟨rfl,rfl,rfl,by decide +kernel,rfl,by decide +kernel,by decide +kernel⟩
theorem m_read_item:mSs (Ctx.of n_read_item (defScope s_read_item).names blts) i_read_item (defBody s_read_item)=true:=by decide +kernel
theorem ar_read_item:∀ ds μ Q,sp_read_item ds μ Q→ds.length=p_read_item.length:=by
 intro ds μ Q h
 unfold sp_read_item at h
 obtain ⟨_,_,rfl,_⟩:=h; rfl
noncomputable abbrev sL_cell:Stmt:=top 20
noncomputable def pL_cell:List Str:=["script","k"]
theorem scL_cell:FnScope nL_cell pL_cell (defScope sL_cell):=⟨rfl,rfl,rfl,by decide +kernel,rfl,by decide +kernel,by decide +kernel⟩
theorem mL_cell:mSs (Ctx.of nL_cell (defScope sL_cell).names blts) iL_cell (defBody sL_cell)=true:=by decide +kernel
theorem arL_cell:∀ ds μ Q,spL_cell ds μ Q→ds.length=pL_cell.length:=by
 intro ds μ Q h
 unfold spL_cell at h
 split at h <;> first | rfl | exact h.elim
noncomputable abbrev sL_mix:Stmt:=top 21
noncomputable def pL_mix:List Str:=["cell","k"]
theorem scL_mix:FnScope nL_mix pL_mix (defScope sL_mix):=⟨rfl,rfl,rfl,by decide +kernel,rfl,by decide +kernel,by decide +kernel⟩
theorem mL_mix:mSs (Ctx.of nL_mix (defScope sL_mix).names blts) iL_mix (defBody sL_mix)=true:=by decide +kernel
theorem arL_mix:∀ ds μ Q,spL_mix ds μ Q→ds.length=pL_mix.length:=by
 intro ds μ Q h
 unfold spL_mix at h
 split at h <;> first | rfl | exact h.elim
noncomputable abbrev sL_take:Stmt:=top 23
noncomputable def pL_take:List Str:=["box","many"]
theorem scL_take:FnScope nL_take pL_take (defScope sL_take):=⟨rfl,rfl,rfl,by decide +kernel,rfl,by decide +kernel,by decide +kernel⟩
theorem mL_take:mSs (Ctx.of nL_take (defScope sL_take).names blts) iL_take (defBody sL_take)=true:=by decide +kernel
theorem arL_take:∀ ds μ Q,spL_take ds μ Q→ds.length=pL_take.length:=by
 intro ds μ Q h
 unfold spL_take at h
 split at h <;> first | rfl | exact h.elim
noncomputable abbrev sL_whole:Stmt:=top 27
noncomputable def pL_whole:List Str:=["thing"]
theorem scL_whole:FnScope nL_whole pL_whole (defScope sL_whole):=⟨rfl,rfl,rfl,by decide +kernel,rfl,by decide +kernel,by decide +kernel⟩
theorem mL_whole:mSs (Ctx.of nL_whole (defScope sL_whole).names blts) iL_whole (defBody sL_whole)=true:=by decide +kernel
theorem arL_whole:∀ ds μ Q,spL_whole ds μ Q→ds.length=pL_whole.length:=by
 intro ds μ Q h
 unfold spL_whole at h
 split at h <;> first | rfl | exact h.elim
noncomputable abbrev sL_text:Stmt:=top 31
noncomputable def pL_text:List Str:=["row"]
theorem scL_text:FnScope nL_text pL_text (defScope sL_text):=⟨rfl,rfl,rfl,by decide +kernel,rfl,by decide +kernel,by decide +kernel⟩
theorem mL_text:mSs (Ctx.of nL_text (defScope sL_text).names blts) iL_text (defBody sL_text)=true:=by decide +kernel
theorem arL_text:∀ ds μ Q,spL_text ds μ Q→ds.length=pL_text.length:=by
 intro ds μ Q h
 unfold spL_text at h
 obtain ⟨_,rfl,_⟩:=h; rfl
noncomputable abbrev sL_key_in:Stmt:=top 33
noncomputable def pL_key_in:List Str:=["word"]
theorem scL_key_in:FnScope nL_key_in pL_key_in (defScope sL_key_in):=⟨rfl,rfl,rfl,by decide +kernel,rfl,by decide +kernel,by decide +kernel⟩
theorem mL_key_in:mSs (Ctx.of nL_key_in (defScope sL_key_in).names blts) iL_key_in (defBody sL_key_in)=true:=by decide +kernel
theorem arL_key_in:∀ ds μ Q,spL_key_in ds μ Q→ds.length=pL_key_in.length:=by
 intro ds μ Q h
 unfold spL_key_in at h
 obtain ⟨_,rfl,_⟩:=h; rfl
noncomputable abbrev s_is_key_text:Stmt:=top 15
noncomputable def p_is_key_text:List Str:=["text"]
theorem sc_is_key_text:FnScope n_is_key_text p_is_key_text (defScope s_is_key_text):=⟨rfl,rfl,rfl,by decide +kernel,rfl,by decide +kernel,by decide +kernel⟩
theorem m_is_key_text:mSs (Ctx.of n_is_key_text (defScope s_is_key_text).names blts) i_is_key_text (defBody s_is_key_text)=true:=by decide +kernel
theorem ar_is_key_text:∀ ds μ Q,sp_is_key_text ds μ Q→ds.length=p_is_key_text.length:=by
 intro ds μ Q h
 unfold sp_is_key_text at h
 obtain ⟨_,rfl,_⟩:=h; rfl
noncomputable abbrev sL_box:Stmt:=top 22
noncomputable def pL_box:List Str:=["script","k"]
theorem scL_box:FnScope nL_box pL_box (defScope sL_box):=⟨rfl,rfl,rfl,by decide +kernel,rfl,by decide +kernel,by decide +kernel⟩
theorem mL_box:mSs (Ctx.of nL_box (defScope sL_box).names blts) iL_box (defBody sL_box)=true:=by decide +kernel
theorem arL_box:∀ ds μ Q,spL_box ds μ Q→ds.length=pL_box.length:=by
 intro ds μ Q h
 unfold spL_box at h
 split at h <;> first | rfl | exact h.elim
noncomputable abbrev sL_tag:Stmt:=top 24
noncomputable def pL_tag:List Str:=["box"]
theorem scL_tag:FnScope nL_tag pL_tag (defScope sL_tag):=⟨rfl,rfl,rfl,by decide +kernel,rfl,by decide +kernel,by decide +kernel⟩
theorem mL_tag:mSs (Ctx.of nL_tag (defScope sL_tag).names blts) iL_tag (defBody sL_tag)=true:=by decide +kernel
theorem arL_tag:∀ ds μ Q,spL_tag ds μ Q→ds.length=pL_tag.length:=by
 intro ds μ Q h
 unfold spL_tag at h
 split at h <;> first | rfl | exact h.elim
noncomputable abbrev sL_key:Stmt:=top 25
noncomputable def pL_key:List Str:=["box"]
theorem scL_key:FnScope nL_key pL_key (defScope sL_key):=⟨rfl,rfl,rfl,by decide +kernel,rfl,by decide +kernel,by decide +kernel⟩
theorem mL_key:mSs (Ctx.of nL_key (defScope sL_key).names blts) iL_key (defBody sL_key)=true:=by decide +kernel
theorem arL_key:∀ ds μ Q,spL_key ds μ Q→ds.length=pL_key.length:=by
 intro ds μ Q h
 unfold spL_key at h
 split at h <;> first | rfl | exact h.elim
noncomputable abbrev sL_is_item:Stmt:=top 28
noncomputable def pL_is_item:List Str:=["thing"]
theorem scL_is_item:FnScope nL_is_item pL_is_item (defScope sL_is_item):=⟨rfl,rfl,rfl,by decide +kernel,rfl,by decide +kernel,by decide +kernel⟩
theorem mL_is_item:mSs (Ctx.of nL_is_item (defScope sL_is_item).names blts) iL_is_item (defBody sL_is_item)=true:=by decide +kernel
theorem arL_is_item:∀ ds μ Q,spL_is_item ds μ Q→ds.length=pL_is_item.length:=by
 intro ds μ Q h
 unfold spL_is_item at h
 obtain ⟨_,rfl,_⟩:=h; rfl
noncomputable abbrev sL_odd:Stmt:=top 30
noncomputable def pL_odd:List Str:=["box"]
theorem scL_odd:FnScope nL_odd pL_odd (defScope sL_odd):=⟨rfl,rfl,rfl,by decide +kernel,rfl,by decide +kernel,by decide +kernel⟩
theorem mL_odd:mSs (Ctx.of nL_odd (defScope sL_odd).names blts) iL_odd (defBody sL_odd)=true:=by decide +kernel
theorem arL_odd:∀ ds μ Q,spL_odd ds μ Q→ds.length=pL_odd.length:=by
 intro ds μ Q h
 unfold spL_odd at h
 split at h <;> first | rfl | exact h.elim
noncomputable abbrev sL_bent:Stmt:=top 32
noncomputable def pL_bent:List Str:=["box","text"]
theorem scL_bent:FnScope nL_bent pL_bent (defScope sL_bent):=⟨rfl,rfl,rfl,by decide +kernel,rfl,by decide +kernel,by decide +kernel⟩
theorem mL_bent:mSs (Ctx.of nL_bent (defScope sL_bent).names blts) iL_bent (defBody sL_bent)=true:=by decide +kernel
theorem arL_bent:∀ ds μ Q,spL_bent ds μ Q→ds.length=pL_bent.length:=by
 intro ds μ Q h
 unfold spL_bent at h
 obtain ⟨_,_,rfl,_⟩:=h; rfl
noncomputable abbrev s_is_item_text:Stmt:=top 16
noncomputable def p_is_item_text:List Str:=["word"]
theorem sc_is_item_text:FnScope n_is_item_text p_is_item_text (defScope s_is_item_text):=⟨rfl,rfl,rfl,by decide +kernel,rfl,by decide +kernel,by decide +kernel⟩
theorem m_is_item_text:mSs (Ctx.of n_is_item_text (defScope s_is_item_text).names blts) i_is_item_text (defBody s_is_item_text)=true:=by decide +kernel
theorem ar_is_item_text:∀ ds μ Q,sp_is_item_text ds μ Q→ds.length=p_is_item_text.length:=by
 intro ds μ Q h
 unfold sp_is_item_text at h
 obtain ⟨_,rfl,_⟩:=h; rfl
noncomputable abbrev sL_row:Stmt:=top 26
noncomputable def pL_row:List Str:=["box","most"]
theorem scL_row:FnScope nL_row pL_row (defScope sL_row):=⟨rfl,rfl,rfl,by decide +kernel,rfl,by decide +kernel,by decide +kernel⟩
theorem mL_row:mSs (Ctx.of nL_row (defScope sL_row).names blts) iL_row (defBody sL_row)=true:=by decide +kernel
theorem arL_row:∀ ds μ Q,spL_row ds μ Q→ds.length=pL_row.length:=by
 intro ds μ Q h
 unfold spL_row at h
 split at h <;> first | rfl | exact h.elim
noncomputable abbrev sL_is_list:Stmt:=top 29
noncomputable def pL_is_list:List Str:=["found","due"]
theorem scL_is_list:FnScope nL_is_list pL_is_list (defScope sL_is_list):=⟨rfl,rfl,rfl,by decide +kernel,rfl,by decide +kernel,by decide +kernel⟩
theorem mL_is_list:mSs (Ctx.of nL_is_list (defScope sL_is_list).names blts) iL_is_list (defBody sL_is_list)=true:=by decide +kernel
theorem arL_is_list:∀ ds μ Q,spL_is_list ds μ Q→ds.length=pL_is_list.length:=by
 intro ds μ Q h
 unfold spL_is_list at h
 obtain ⟨_,_,rfl,_⟩:=h; rfl
noncomputable abbrev sL_read:Stmt:=top 34
noncomputable def pL_read:List Str:=["text"]
theorem scL_read:FnScope nL_read pL_read (defScope sL_read):=⟨rfl,rfl,rfl,by decide +kernel,rfl,by decide +kernel,by decide +kernel⟩
theorem mL_read:mSs (Ctx.of nL_read (defScope sL_read).names blts) iL_read (defBody sL_read)=true:=by decide +kernel
theorem arL_read:∀ ds μ Q,spL_read ds μ Q→ds.length=pL_read.length:=by
 intro ds μ Q h
 unfold spL_read at h
 obtain ⟨_,rfl,_⟩:=h; rfl
noncomputable abbrev s_read_row:Stmt:=top 18
noncomputable def p_read_row:List Str:=["text"]
theorem sc_read_row:FnScope n_read_row p_read_row (defScope s_read_row):=⟨rfl,rfl,rfl,by decide +kernel,rfl,by decide +kernel,by decide +kernel⟩
theorem m_read_row:mSs (Ctx.of n_read_row (defScope s_read_row).names blts) i_read_row (defBody s_read_row)=true:=by decide +kernel
theorem ar_read_row:∀ ds μ Q X,sp_read_row ds μ Q X→ds.length=p_read_row.length:=by
 intro ds μ Q X h
 unfold sp_read_row at h
 obtain ⟨_,rfl,_⟩:=h; rfl
noncomputable abbrev sL_told:Stmt:=top 35
noncomputable def pL_told:List Str:=["text"]
theorem scL_told:FnScope nL_told pL_told (defScope sL_told):=⟨rfl,rfl,rfl,by decide +kernel,rfl,by decide +kernel,by decide +kernel⟩
theorem mL_told:mSs (Ctx.of nL_told (defScope sL_told).names blts) iL_told (defBody sL_told)=true:=by decide +kernel
theorem arL_told:∀ ds μ Q,spL_told ds μ Q→ds.length=pL_told.length:=by
 intro ds μ Q h
 unfold spL_told at h
 obtain ⟨_,rfl,_⟩:=h; rfl
noncomputable abbrev s_law:Stmt:=top 36
noncomputable def p_law:List Str:=["script"]
theorem sc_law:FnScope n_law p_law (defScope s_law):=⟨rfl,rfl,rfl,by decide +kernel,rfl,by decide +kernel,by decide +kernel⟩
theorem m_law:mSs (Ctx.of n_law (defScope s_law).names blts) i_law (defBody s_law)=true:=by decide +kernel
theorem ar_law:∀ ds μ Q,spLaw ds μ Q→ds.length=p_law.length:=by
 intro ds μ Q h
 unfold spLaw at h
 obtain ⟨_,rfl,_⟩:=h; rfl
noncomputable abbrev si_NoRow:Stmt:=inClass (top 5) 0
theorem ii_NoRow:FnScope ("self" :: ["at"].map fun k=>Str.ofString k) ("self" :: ["at"].map fun k=>Str.ofString k) (defScope si_NoRow):=⟨rfl,rfl,rfl,by decide +kernel,rfl,by decide +kernel,by decide +kernel⟩
theorem ix0_mk {K:PySem.W.Frag} {C0 C1 C2 C3 C4 D0:Addr} (a0:PySem.W.nsIn K mainGlobals (Str.ofString "NoPlace")=some (some (.ref C0))) (a1:PySem.W.nsIn K mainGlobals (Str.ofString "NoRoom")=some (some (.ref C1))) (a2:PySem.W.nsIn K mainGlobals (Str.ofString "NotRising")=some (some (.ref C2))) (a3:PySem.W.nsIn K mainGlobals (Str.ofString "NoTrace")=some (some (.ref C3))) (a4:PySem.W.nsIn K mainGlobals (Str.ofString "NoWidth")=some (some (.ref C4))) (d0:PySem.W.nsIn K mainGlobals (Str.ofString "NoRow")=some (some (.ref D0))) (e0:XCls K "NoRow") (k0:PySem.W.kitAny K (.ref D0) [.ref C0,.ref C1,.ref C2,.ref C3,.ref C4]=some false):IsxK K true ["NoPlace","NoRoom","NotRising","NoTrace","NoWidth"] [("NoRow",false)]:=by
 refine ⟨[.ref C0,.ref C1,.ref C2,.ref C3,.ref C4],⟨.inl ⟨C0,rfl,a0⟩,.inl ⟨C1,rfl,a1⟩,.inl ⟨C2,rfl,a2⟩,.inl ⟨C3,rfl,a3⟩,.inl ⟨C4,rfl,a4⟩,trivial⟩,?_⟩
 intro p hp
 simp only [List.mem_cons,List.not_mem_nil,or_false] at hp
 subst hp
 ·obtain ⟨D,f1,f2⟩:=e0
  rw [d0] at f1; cases f1
  exact ⟨D0,d0,f2,by rw [if_pos rfl]; exact k0⟩
theorem ix1_mk {K:PySem.W.Frag} { D0:Addr} (a0:PySem.W.nsIn K mainGlobals (Str.ofString "ValueError")=some none) (d0:PySem.W.nsIn K mainGlobals (Str.ofString "NoRow")=some (some (.ref D0))) (e0:XCls K "NoRow") (k0:PySem.W.kitOne K (.ref D0) (.type "ValueError")=some true):IsxK K false ["ValueError"] [("NoRow",true)]:=by
 refine ⟨[.ty "ValueError"],⟨.inr ⟨rfl,a0,by decide +kernel,by decide +kernel⟩,trivial⟩,?_⟩
 intro p hp
 simp only [List.mem_cons,List.not_mem_nil,or_false] at hp
 subst hp
 ·obtain ⟨D,f1,f2⟩:=e0
  rw [d0] at f1; cases f1
  exact ⟨D0,d0,f2,by rw [if_neg Bool.false_ne_true]; exact ⟨_,rfl,k0⟩⟩
theorem ix2_mk {K:PySem.W.Frag} {C0 D0:Addr} (a0:PySem.W.nsIn K mainGlobals (Str.ofString "NoRow")=some (some (.ref C0))) (d0:PySem.W.nsIn K mainGlobals (Str.ofString "NoRow")=some (some (.ref D0))) (e0:XCls K "NoRow") (k0:PySem.W.kitOne K (.ref D0) (.ref C0)=some true):IsxK K false ["NoRow"] [("NoRow",true)]:=by
 refine ⟨[.ref C0],⟨.inl ⟨C0,rfl,a0⟩,trivial⟩,?_⟩
 intro p hp
 simp only [List.mem_cons,List.not_mem_nil,or_false] at hp
 subst hp
 ·obtain ⟨D,f1,f2⟩:=e0
  rw [d0] at f1; cases f1
  exact ⟨D0,d0,f2,by rw [if_neg Bool.false_ne_true]; exact ⟨_,rfl,k0⟩⟩
theorem hd_PourError_mk {K:PySem.W.Frag} {CP D0:Addr} (a:PySem.W.nsIn K mainGlobals (Str.ofString "PourError")=some (some (.ref CP))) (d0:PySem.W.nsIn K mainGlobals (Str.ofString "NoRow")=some (some (.ref D0))) (k0:PySem.W.exmOne K (.ref D0) (.ref CP)=some true):HdlK K "PourError" ["NoRow"]:=by
 refine ⟨CP,a,?_⟩
 intro c hc
 simp only [List.mem_cons,List.not_mem_nil,or_false] at hc
 subst hc
 ·exact ⟨D0,d0,k0⟩
set_option maxHeartbeats 0 in
theorem law_fn {T:Top} {h:Heap} {f:Addr} {fd:FuncData} {t_MOST_ITEMS:Tok} {t_MOST_LETTERS:Tok} {t_MOST_FIGURES:Tok} (X:T.K.In h) (G:h.Ns mainGlobals T.mg) (fr:FreeAt T.K blts) (c_MOST_ITEMS:PySem.W.nsIn T.K mainGlobals "MOST_ITEMS" = some (some (.int 200 t_MOST_ITEMS))) (c_MOST_LETTERS:PySem.W.nsIn T.K mainGlobals "MOST_LETTERS" = some (some (.int 8 t_MOST_LETTERS))) (c_MOST_FIGURES:PySem.W.nsIn T.K mainGlobals "MOST_FIGURES" = some (some (.int 40 t_MOST_FIGURES))) (ri_NoRow:IniK T.K "NoRow" ["at"] "NoRow.__init__" si_NoRow) (ra_NoRow:NoAts T.K "NoRow" ["at"]) (ef_at:EflK T.K "at" ["NoRow"]) (x0:IsxK T.K true ["NoPlace","NoRoom","NotRising","NoTrace","NoWidth"] [("NoRow",false)]) (x1:IsxK T.K false ["ValueError"] [("NoRow",true)]) (x2:IsxK T.K false ["NoRow"] [("NoRow",true)]) (h_PourError:HdlK T.K "PourError" ["NoRow"]) (d_is_tag:DefAt T.K "is_tag" s_is_tag) (d_are_figures:DefAt T.K "are_figures" s_are_figures) (d_read_item:DefAt T.K "read_item" s_read_item) (dL_cell:DefAt T.K "_law_cell" sL_cell) (dL_mix:DefAt T.K "_law_mix" sL_mix) (dL_take:DefAt T.K "_law_take" sL_take) (dL_whole:DefAt T.K "_law_whole" sL_whole) (dL_text:DefAt T.K "_law_text" sL_text) (dL_key_in:DefAt T.K "_law_key_in" sL_key_in) (d_is_key_text:DefAt T.K "is_key_text" s_is_key_text) (dL_box:DefAt T.K "_law_box" sL_box) (dL_tag:DefAt T.K "_law_tag" sL_tag) (dL_key:DefAt T.K "_law_key" sL_key) (dL_is_item:DefAt T.K "_law_is_item" sL_is_item) (dL_odd:DefAt T.K "_law_odd" sL_odd) (dL_bent:DefAt T.K "_law_bent" sL_bent) (d_is_item_text:DefAt T.K "is_item_text" s_is_item_text) (dL_row:DefAt T.K "_law_row" sL_row) (dL_is_list:DefAt T.K "_law_is_list" sL_is_list) (dL_read:DefAt T.K "_law_read" sL_read) (d_read_row:DefAt T.K "read_row" s_read_row) (dL_told:DefAt T.K "_law_told" sL_told) (F:Fun T.K "law" "law" s_law f fd):FnOk T.P T.w T.K T.mg T.base (CXE T.P T.w) 22 f fd p_law (low T.K spLaw):=by
 have hb:=free_of X G fr
 have g_MOST_ITEMS:GblTop T "MOST_ITEMS" (.int 200):=gbl_int (PySem.W.mg_of X G c_MOST_ITEMS)
 have g_MOST_LETTERS:GblTop T "MOST_LETTERS" (.int 8):=gbl_int (PySem.W.mg_of X G c_MOST_LETTERS)
 have g_MOST_FIGURES:GblTop T "MOST_FIGURES" (.int 40):=gbl_int (PySem.W.mg_of X G c_MOST_FIGURES)
 have o_is_tag:okSs (FnTop T 0) (GblTop T) i_is_tag:=by
  repeat' first | exact trivial | refine And.intro ?_ ?_ | assumption | exact rfl
 have u_is_tag:=fn_at d_is_tag X G sc_is_tag m_is_tag hb (fun _ _ _ _ _ _=>len1 fun _=>rfl) ar_is_tag k_is_tag o_is_tag
 have o_are_figures:okSs (FnTop T 0) (GblTop T) i_are_figures:=by
  repeat' first | exact trivial | refine And.intro ?_ ?_ | assumption | exact rfl
 have u_are_figures:=fn_at d_are_figures X G sc_are_figures m_are_figures hb (fun _ _ _ _ _ _=>len1 fun _=>rfl) ar_are_figures k_are_figures o_are_figures
 have o_read_item:okSs (FnTop T 0) (GblTop T) i_read_item:=by
  repeat' first | exact trivial | refine And.intro ?_ ?_ | assumption | exact rfl
 have u_read_item:=fn_at d_read_item X G sc_read_item m_read_item hb (fun _ _ _ _ _ _=>len1 fun _=>rfl) ar_read_item k_read_item o_read_item
 have oL_cell:okSs (FnTop T 0) (GblTop T) iL_cell:=by
  repeat' first | exact trivial | refine And.intro ?_ ?_ | assumption | exact rfl
 have uL_cell:=fn_at dL_cell X G scL_cell mL_cell hb (fun _ _ _ _ _ _=>len2 fun _ _=>rfl) arL_cell kL_cell oL_cell
 have oL_mix:okSs (FnTop T 0) (GblTop T) iL_mix:=by
  repeat' first | exact trivial | refine And.intro ?_ ?_ | assumption | exact rfl
 have uL_mix:=fn_at dL_mix X G scL_mix mL_mix hb (fun _ _ _ _ _ _=>len2 fun _ _=>rfl) arL_mix kL_mix oL_mix
 have oL_take:okSs (FnTop T 0) (GblTop T) iL_take:=by
  repeat' first | exact trivial | refine And.intro ?_ ?_ | assumption | exact rfl
 have uL_take:=fn_at dL_take X G scL_take mL_take hb (fun _ _ _ _ _ _=>len2 fun _ _=>rfl) arL_take kL_take oL_take
 have oL_whole:okSs (FnTop T 0) (GblTop T) iL_whole:=by
  repeat' first | exact trivial | refine And.intro ?_ ?_ | assumption | exact rfl
 have uL_whole:=fn_at dL_whole X G scL_whole mL_whole hb (fun _ _ _ _ _ _=>len1 fun _=>rfl) arL_whole kL_whole oL_whole
 have oL_text:okSs (FnTop T 0) (GblTop T) iL_text:=by
  repeat' first | exact trivial | refine And.intro ?_ ?_ | assumption | exact rfl
 have uL_text:=fn_at dL_text X G scL_text mL_text hb (fun _ _ _ _ _ _=>len1 fun _=>rfl) arL_text kL_text oL_text
 have oL_key_in:okSs (FnTop T 0) (GblTop T) iL_key_in:=by
  repeat' first | exact trivial | refine And.intro ?_ ?_ | assumption | exact rfl
 have uL_key_in:=fn_at dL_key_in X G scL_key_in mL_key_in hb (fun _ _ _ _ _ _=>len1 fun _=>rfl) arL_key_in kL_key_in oL_key_in
 have u_are_figures_is_key_text:=u_are_figures.up (show 1≤1 by decide)
 have o_is_key_text:okSs (FnTop T 1) (GblTop T) i_is_key_text:=by
  repeat' first | exact trivial | refine And.intro ?_ ?_ | assumption | exact rfl
 have u_is_key_text:=fn_at d_is_key_text X G sc_is_key_text m_is_key_text hb (fun _ _ _ _ _ _=>len1 fun _=>rfl) ar_is_key_text k_is_key_text o_is_key_text
 have uL_cellL_box:=uL_cell.up (show 1≤1 by decide)
 have uL_mixL_box:=uL_mix.up (show 1≤1 by decide)
 have oL_box:okSs (FnTop T 1) (GblTop T) iL_box:=by
  repeat' first | exact trivial | refine And.intro ?_ ?_ | assumption | exact rfl
 have uL_box:=fn_at dL_box X G scL_box mL_box hb (fun _ _ _ _ _ _=>len2 fun _ _=>rfl) arL_box kL_box oL_box
 have uL_takeL_tag:=uL_take.up (show 1≤1 by decide)
 have oL_tag:okSs (FnTop T 1) (GblTop T) iL_tag:=by
  repeat' first | exact trivial | refine And.intro ?_ ?_ | assumption | exact rfl
 have uL_tag:=fn_at dL_tag X G scL_tag mL_tag hb (fun _ _ _ _ _ _=>len1 fun _=>rfl) arL_tag kL_tag oL_tag
 have uL_takeL_key:=uL_take.up (show 1≤1 by decide)
 have oL_key:okSs (FnTop T 1) (GblTop T) iL_key:=by
  repeat' first | exact trivial | refine And.intro ?_ ?_ | assumption | exact rfl
 have uL_key:=fn_at dL_key X G scL_key mL_key hb (fun _ _ _ _ _ _=>len1 fun _=>rfl) arL_key kL_key oL_key
 have uL_wholeL_is_item:=uL_whole.up (show 1≤1 by decide)
 have oL_is_item:okSs (FnTop T 1) (GblTop T) iL_is_item:=by
  repeat' first | exact trivial | refine And.intro ?_ ?_ | assumption | exact rfl
 have uL_is_item:=fn_at dL_is_item X G scL_is_item mL_is_item hb (fun _ _ _ _ _ _=>len1 fun _=>rfl) arL_is_item kL_is_item oL_is_item
 have uL_takeL_odd:=uL_take.up (show 1≤1 by decide)
 have oL_odd:okSs (FnTop T 1) (GblTop T) iL_odd:=by
  repeat' first | exact trivial | refine And.intro ?_ ?_ | assumption | exact rfl
 have uL_odd:=fn_at dL_odd X G scL_odd mL_odd hb (fun _ _ _ _ _ _=>len1 fun _=>rfl) arL_odd kL_odd oL_odd
 have uL_takeL_bent:=uL_take.up (show 1≤1 by decide)
 have oL_bent:okSs (FnTop T 1) (GblTop T) iL_bent:=by
  repeat' first | exact trivial | refine And.intro ?_ ?_ | assumption | exact rfl
 have uL_bent:=fn_at dL_bent X G scL_bent mL_bent hb (fun _ _ _ _ _ _=>len2 fun _ _=>rfl) arL_bent kL_bent oL_bent
 have u_is_key_text_is_item_text:=u_is_key_text.up (show 2≤2 by decide)
 have u_is_tag_is_item_text:=u_is_tag.up (show 1≤2 by decide)
 have o_is_item_text:okSs (FnTop T 2) (GblTop T) i_is_item_text:=by
  repeat' first | exact trivial | refine And.intro ?_ ?_ | assumption | exact rfl
 have u_is_item_text:=fn_at d_is_item_text X G sc_is_item_text m_is_item_text hb (fun _ _ _ _ _ _=>len1 fun _=>rfl) ar_is_item_text k_is_item_text o_is_item_text
 have uL_keyL_row:=uL_key.up (show 2≤2 by decide)
 have uL_tagL_row:=uL_tag.up (show 2≤2 by decide)
 have uL_takeL_row:=uL_take.up (show 1≤2 by decide)
 have oL_row:okSs (FnTop T 2) (GblTop T) iL_row:=by
  repeat' first | exact trivial | refine And.intro ?_ ?_ | assumption | exact rfl
 have uL_row:=fn_at dL_row X G scL_row mL_row hb (fun _ _ _ _ _ _=>len2 fun _ _=>rfl) arL_row kL_row oL_row
 have uL_is_itemL_is_list:=uL_is_item.up (show 2≤2 by decide)
 have oL_is_list:okSs (FnTop T 2) (GblTop T) iL_is_list:=by
  repeat' first | exact trivial | refine And.intro ?_ ?_ | assumption | exact rfl
 have uL_is_list:=fn_at dL_is_list X G scL_is_list mL_is_list hb (fun _ _ _ _ _ _=>len2 fun _ _=>rfl) arL_is_list kL_is_list oL_is_list
 have uL_key_inL_read:=uL_key_in.up (show 1≤2 by decide)
 have uL_is_itemL_read:=uL_is_item.up (show 2≤2 by decide)
 have oL_read:okSs (FnTop T 2) (GblTop T) iL_read:=by
  repeat' first | exact trivial | refine And.intro ?_ ?_ | assumption | exact rfl
 have uL_read:=fn_at dL_read X G scL_read mL_read hb (fun _ _ _ _ _ _=>len1 fun _=>rfl) arL_read kL_read oL_read
 have u_is_item_text_read_row:=u_is_item_text.up (show 3≤3 by decide)
 have u_read_item_read_row:=u_read_item.up (show 1≤3 by decide)
 have yi_NoRow_read_row:FnTop T 3 (.rsi "NoRow" ["at"]) spN:=rsi_at X G ri_NoRow ra_NoRow ii_NoRow (by decide +kernel) (by decide +kernel) (fun _ _ _ _ _ _=>len2 fun _ _=>rfl) (by decide)
 have yj_NoRow_read_row:=yi_NoRow_read_row.1
 have yk_NoRow_read_row:=yi_NoRow_read_row.2
 have o_read_row:okSs (FnTop T 3) (GblTop T) i_read_row:=by
  repeat' first | exact trivial | refine And.intro ?_ ?_ | assumption | exact rfl
 have u_read_row:=fn_atX d_read_row X G sc_read_row m_read_row hb (fun _ _ _ _ _ _=>len1 fun _=>rfl) ar_read_row k_read_row o_read_row
 have u_read_rowL_told:=u_read_row.up (show 4≤4 by decide)
 have v_read_rowL_told:=u_read_rowL_told.calm
 have ye_atL_told:FnTop T 4 (.efl "at" ["NoRow"]) spN:=ef_at.at
 have z0L_told:FnTop T 4 (.isx true ["NoPlace","NoRoom","NotRising","NoTrace","NoWidth"] [("NoRow",false)]) spN:=x0.at X G
 have z1L_told:FnTop T 4 (.isx false ["ValueError"] [("NoRow",true)]) spN:=x1.at X G
 have z2L_told:FnTop T 4 (.isx false ["NoRow"] [("NoRow",true)]) spN:=x2.at X G
 have w_PourErrorL_told:FnTop T 4 (.hdl "PourError" ["NoRow"]) spN:=h_PourError.at X G
 have oL_told:okSs (FnTop T 4) (GblTop T) iL_told:=by
  repeat' first | exact trivial | refine And.intro ?_ ?_ | assumption | exact rfl
 have uL_told:=fn_at dL_told X G scL_told mL_told hb (fun _ _ _ _ _ _=>len1 fun _=>rfl) arL_told kL_told oL_told
 have uL_box_law:=uL_box.up (show 2≤5 by decide)
 have uL_text_law:=uL_text.up (show 1≤5 by decide)
 have uL_row_law:=uL_row.up (show 3≤5 by decide)
 have uL_odd_law:=uL_odd.up (show 2≤5 by decide)
 have uL_bent_law:=uL_bent.up (show 2≤5 by decide)
 have uL_read_law:=uL_read.up (show 3≤5 by decide)
 have uL_told_law:=uL_told.up (show 5≤5 by decide)
 have uL_is_list_law:=uL_is_list.up (show 3≤5 by decide)
 have uL_whole_law:=uL_whole.up (show 1≤5 by decide)
 have o_law:okSs (FnTop T 5) (GblTop T) i_law:=by
  repeat' first | exact trivial | refine And.intro ?_ ?_ | assumption | exact rfl
 exact fn_okF F sc_law m_law hb o_law ar_law k_law
end DW.K05
open PySem PySem.W PyProof.Rows
set_option maxRecDepth 100000 in
set_option maxHeartbeats 0 in
theorem PySem.Challenge.cw_pourwright_k05_texts_refused_holds : PySem.Challenge.rw_pourwright_k05_texts_refused.Holds := by
 w_on; o_law; k_head; (case hw=>w_witness2)
 k_fill
 refine DW.law_walk (l:=PySem.Challenge.rw_pourwright_k05_texts_refused) (k:=22) ?I rfl (by decide) rfl (fun w h Y=>PySem.W.kIn_of Y) ?F
 case I=>kernel_rfl
 case F =>
  intro w mg fa h KX G hmg
  have d_is_tag:DW.DefAt (L2.KOf KX) "is_tag" DW.K05.s_is_tag:=by
   dsimp only [L2.KOf]
   refine' DW.defAt_mk ?a ?l ?c ?k
   (case a=>k_is); (case l=>k_is); (case c=>k_is); (case k=>k_is)
  have d_are_figures:DW.DefAt (L2.KOf KX) "are_figures" DW.K05.s_are_figures:=by
   dsimp only [L2.KOf]
   refine' DW.defAt_mk ?a ?l ?c ?k
   (case a=>k_is); (case l=>k_is); (case c=>k_is); (case k=>k_is)
  have d_read_item:DW.DefAt (L2.KOf KX) "read_item" DW.K05.s_read_item:=by
   dsimp only [L2.KOf]
   refine' DW.defAt_mk ?a ?l ?c ?k
   (case a=>k_is); (case l=>k_is); (case c=>k_is); (case k=>k_is)
  have dL_cell:DW.DefAt (L2.KOf KX) "_law_cell" DW.K05.sL_cell:=by
   dsimp only [L2.KOf]
   refine' DW.defAt_mk ?a ?l ?c ?k
   (case a=>k_is); (case l=>k_is); (case c=>k_is); (case k=>k_is)
  have dL_mix:DW.DefAt (L2.KOf KX) "_law_mix" DW.K05.sL_mix:=by
   dsimp only [L2.KOf]
   refine' DW.defAt_mk ?a ?l ?c ?k
   (case a=>k_is); (case l=>k_is); (case c=>k_is); (case k=>k_is)
  have dL_take:DW.DefAt (L2.KOf KX) "_law_take" DW.K05.sL_take:=by
   dsimp only [L2.KOf]
   refine' DW.defAt_mk ?a ?l ?c ?k
   (case a=>k_is); (case l=>k_is); (case c=>k_is); (case k=>k_is)
  have dL_whole:DW.DefAt (L2.KOf KX) "_law_whole" DW.K05.sL_whole:=by
   dsimp only [L2.KOf]
   refine' DW.defAt_mk ?a ?l ?c ?k
   (case a=>k_is); (case l=>k_is); (case c=>k_is); (case k=>k_is)
  have dL_text:DW.DefAt (L2.KOf KX) "_law_text" DW.K05.sL_text:=by
   dsimp only [L2.KOf]
   refine' DW.defAt_mk ?a ?l ?c ?k
   (case a=>k_is); (case l=>k_is); (case c=>k_is); (case k=>k_is)
  have dL_key_in:DW.DefAt (L2.KOf KX) "_law_key_in" DW.K05.sL_key_in:=by
   dsimp only [L2.KOf]
   refine' DW.defAt_mk ?a ?l ?c ?k
   (case a=>k_is); (case l=>k_is); (case c=>k_is); (case k=>k_is)
  have d_is_key_text:DW.DefAt (L2.KOf KX) "is_key_text" DW.K05.s_is_key_text:=by
   dsimp only [L2.KOf]
   refine' DW.defAt_mk ?a ?l ?c ?k
   (case a=>k_is); (case l=>k_is); (case c=>k_is); (case k=>k_is)
  have dL_box:DW.DefAt (L2.KOf KX) "_law_box" DW.K05.sL_box:=by
   dsimp only [L2.KOf]
   refine' DW.defAt_mk ?a ?l ?c ?k
   (case a=>k_is); (case l=>k_is); (case c=>k_is); (case k=>k_is)
  have dL_tag:DW.DefAt (L2.KOf KX) "_law_tag" DW.K05.sL_tag:=by
   dsimp only [L2.KOf]
   refine' DW.defAt_mk ?a ?l ?c ?k
   (case a=>k_is); (case l=>k_is); (case c=>k_is); (case k=>k_is)
  have dL_key:DW.DefAt (L2.KOf KX) "_law_key" DW.K05.sL_key:=by
   dsimp only [L2.KOf]
   refine' DW.defAt_mk ?a ?l ?c ?k
   (case a=>k_is); (case l=>k_is); (case c=>k_is); (case k=>k_is)
  have dL_is_item:DW.DefAt (L2.KOf KX) "_law_is_item" DW.K05.sL_is_item:=by
   dsimp only [L2.KOf]
   refine' DW.defAt_mk ?a ?l ?c ?k
   (case a=>k_is); (case l=>k_is); (case c=>k_is); (case k=>k_is)
  have dL_odd:DW.DefAt (L2.KOf KX) "_law_odd" DW.K05.sL_odd:=by
   dsimp only [L2.KOf]
   refine' DW.defAt_mk ?a ?l ?c ?k
   (case a=>k_is); (case l=>k_is); (case c=>k_is); (case k=>k_is)
  have dL_bent:DW.DefAt (L2.KOf KX) "_law_bent" DW.K05.sL_bent:=by
   dsimp only [L2.KOf]
   refine' DW.defAt_mk ?a ?l ?c ?k
   (case a=>k_is); (case l=>k_is); (case c=>k_is); (case k=>k_is)
  have d_is_item_text:DW.DefAt (L2.KOf KX) "is_item_text" DW.K05.s_is_item_text:=by
   dsimp only [L2.KOf]
   refine' DW.defAt_mk ?a ?l ?c ?k
   (case a=>k_is); (case l=>k_is); (case c=>k_is); (case k=>k_is)
  have dL_row:DW.DefAt (L2.KOf KX) "_law_row" DW.K05.sL_row:=by
   dsimp only [L2.KOf]
   refine' DW.defAt_mk ?a ?l ?c ?k
   (case a=>k_is); (case l=>k_is); (case c=>k_is); (case k=>k_is)
  have dL_is_list:DW.DefAt (L2.KOf KX) "_law_is_list" DW.K05.sL_is_list:=by
   dsimp only [L2.KOf]
   refine' DW.defAt_mk ?a ?l ?c ?k
   (case a=>k_is); (case l=>k_is); (case c=>k_is); (case k=>k_is)
  have dL_read:DW.DefAt (L2.KOf KX) "_law_read" DW.K05.sL_read:=by
   dsimp only [L2.KOf]
   refine' DW.defAt_mk ?a ?l ?c ?k
   (case a=>k_is); (case l=>k_is); (case c=>k_is); (case k=>k_is)
  have d_read_row:DW.DefAt (L2.KOf KX) "read_row" DW.K05.s_read_row:=by
   dsimp only [L2.KOf]
   refine' DW.defAt_mk ?a ?l ?c ?k
   (case a=>k_is); (case l=>k_is); (case c=>k_is); (case k=>k_is)
  have dL_told:DW.DefAt (L2.KOf KX) "_law_told" DW.K05.sL_told:=by
   dsimp only [L2.KOf]
   refine' DW.defAt_mk ?a ?l ?c ?k
   (case a=>k_is); (case l=>k_is); (case c=>k_is); (case k=>k_is)
  have d_law:DW.DefAt (L2.KOf KX) "law" DW.K05.s_law:=by
   dsimp only [L2.KOf]
   refine' DW.defAt_mk ?a ?l ?c ?k
   (case a=>k_is); (case l=>k_is); (case c=>k_is); (case k=>k_is)
  have ri_NoRow:DW.IniK (L2.KOf KX) "NoRow" ["at"] "NoRow.__init__" DW.K05.si_NoRow:=by
   dsimp only [L2.KOf]
   refine' DW.iniK_mk ?a ?z ?i ?hd ?sa ?ob ?l ?c ?k ?b ?ov
   (case a=>k_is); (case z=>k_is); (case i=>k_is); (case hd=>k_is); (case sa=>k_is); (case ob=>k_is); (case l=>k_is); (case c=>k_is); (case k=>k_is); (case b=>kernel_rfl); (case ov=>kernel_rfl)
  have ra_NoRow:DW.NoAts (L2.KOf KX) "NoRow" ["at"]:=by
   dsimp only [L2.KOf]
   refine' ⟨DW.noAt_mk ?a0 ?b0,trivial⟩
   (case a0=>k_is); (case b0=>k_is)
  have xc_NoRow:DW.XCls (L2.KOf KX) "NoRow":=by
   dsimp only [L2.KOf]
   refine' DW.xCls_mk ?a ?b ?c ?d ?e ?f ?g ?h ?i
   (case a=>k_is); (case b=>k_is); (case c=>k_is); (case d=>k_is); (case e=>k_is); (case f=>k_is); (case g=>k_is); (case h=>k_is); (case i=>k_is)
  have ef_at:DW.EflK (L2.KOf KX) "at" ["NoRow"]:=by
   dsimp only [L2.KOf] at *
   refine' ⟨DW.eflK_mk xc_NoRow ?a0 ?b0 ?c0,trivial⟩
   (case a0=>k_is); (case b0=>k_is); (case c0=>k_is)
  have x0:DW.IsxK (L2.KOf KX) true ["NoPlace","NoRoom","NotRising","NoTrace","NoWidth"] [("NoRow",false)]:=by
   dsimp only [L2.KOf] at *
   refine' DW.K05.ix0_mk ?a0 ?a1 ?a2 ?a3 ?a4 ?d0 xc_NoRow ?k0
   (case a0=>k_is); (case a1=>k_is); (case a2=>k_is); (case a3=>k_is); (case a4=>k_is); (case d0=>k_is); (case k0=>kit_is)
  have x1:DW.IsxK (L2.KOf KX) false ["ValueError"] [("NoRow",true)]:=by
   dsimp only [L2.KOf] at *
   refine' DW.K05.ix1_mk ?a0 ?d0 xc_NoRow ?k0
   (case a0=>k_is); (case d0=>k_is); (case k0=>kit_is)
  have x2:DW.IsxK (L2.KOf KX) false ["NoRow"] [("NoRow",true)]:=by
   dsimp only [L2.KOf] at *
   refine' DW.K05.ix2_mk ?a0 ?d0 xc_NoRow ?k0
   (case a0=>k_is); (case d0=>k_is); (case k0=>kit_is)
  have h_PourError:DW.HdlK (L2.KOf KX) "PourError" ["NoRow"]:=by
   dsimp only [L2.KOf]
   refine' DW.K05.hd_PourError_mk ?a ?d0 ?k0
   (case a=>k_is); (case d0=>k_is); (case k0=>kts_exm)
  have fr:DW.FreeAt (L2.KOf KX) DW.K05.blts:=by
   dsimp only [L2.KOf,DW.K05.blts,DW.FreeAt]
   refine' ⟨?z0,?z1,?z2,?z3,?z4,?z5,?z6,?z7,?z8,?z9,?z10,?z11,?z12,?z13,?z14,?z15,trivial⟩
   (case z0=>k_is)
   (case z1=>k_is)
   (case z2=>k_is)
   (case z3=>k_is)
   (case z4=>k_is)
   (case z5=>k_is)
   (case z6=>k_is)
   (case z7=>k_is)
   (case z8=>k_is)
   (case z9=>k_is)
   (case z10=>k_is)
   (case z11=>k_is)
   (case z12=>k_is)
   (case z13=>k_is)
   (case z14=>k_is)
   (case z15=>k_is)
  have c_MOST_ITEMS:∃ t,PySem.W.nsIn (L2.KOf KX) mainGlobals "MOST_ITEMS" = some (some (.int 200 t)):=by
   dsimp only [L2.KOf]
   refine' DW.intAt_mk ?z
   (case z=>k_is)
  obtain ⟨t_MOST_ITEMS,c_MOST_ITEMS⟩:=c_MOST_ITEMS
  have c_MOST_LETTERS:∃ t,PySem.W.nsIn (L2.KOf KX) mainGlobals "MOST_LETTERS" = some (some (.int 8 t)):=by
   dsimp only [L2.KOf]
   refine' DW.intAt_mk ?z
   (case z=>k_is)
  obtain ⟨t_MOST_LETTERS,c_MOST_LETTERS⟩:=c_MOST_LETTERS
  have c_MOST_FIGURES:∃ t,PySem.W.nsIn (L2.KOf KX) mainGlobals "MOST_FIGURES" = some (some (.int 40 t)):=by
   dsimp only [L2.KOf]
   refine' DW.intAt_mk ?z
   (case z=>k_is)
  obtain ⟨t_MOST_FIGURES,c_MOST_FIGURES⟩:=c_MOST_FIGURES
  obtain ⟨f,fd,e1,F⟩:=d_law
  have e2:=hmg.symm.trans (PySem.W.mg_of KX G e1)
  cases e2
  refine ⟨fd,?_,fun base _ _=>DW.K05.law_fn (T:=⟨_,w,_,mg,base⟩) KX G fr c_MOST_ITEMS c_MOST_LETTERS c_MOST_FIGURES ri_NoRow ra_NoRow ef_at x0 x1 x2 h_PourError d_is_tag d_are_figures d_read_item dL_cell dL_mix dL_take dL_whole dL_text dL_key_in d_is_key_text dL_box dL_tag dL_key dL_is_item dL_odd dL_bent d_is_item_text dL_row dL_is_list dL_read d_read_row dL_told F⟩
  obtain ⟨oc,od,kV,doc,pm,an,cdv,ct,osl,rfl,lk,hcd⟩:=F.ex
  exact fun s u=>.of_eq rfl
#print axioms PySem.Challenge.cw_pourwright_k05_texts_refused_holds
