import PyProof.Rows.All
import Wide.All
import OpenK.AllK
import Wide.FinOn
import Lean
import PyProof.EqAt
import PyProof.EqKinds
import PyProof.TupleCall
import KE.KTabLook
import PyProof.StrLawsChain
import PyProof.StrLawsFirst
import PyProof.StrLawsJoin
import PyProof.MeetsStr2
import PyProof.ReprLen
import KE.KIntText
import PySem.Syntax
import PySem.Value
import PyProof.StrOps2
import PySem.Eval
import PyProof.NeKinds
import PyProof.StrLawsIn
import KE.KEqDict
import PyProof.DictTable
import PyProof.SliceStr2
import PyProof.ReprRoads
import PyProof.CallFns
import KE.KSortTup
import PyProof.Rows.SortWalk
import PyProof.Dict
import PyProof.DictKinds
import PyProof.StrOps
import KE.KDictList
import KE.KLam
import PyProof.FitsInt
import PyProof.ListRange
import PyProof.TupleOfSeq
import PyProof.Rows.FactsT2
import PyProof.ZipIter
import PyProof.WalksEnum
import PyProof.EnumMake
import KE.KRevIter
import PyProof.CollectIter
import PyProof.EnumStmt
import KE.KTryMore
import OpenK.KMake
import PyProof.AttrMiss
import PyProof.FactsAll.enumerate
import KE.KDictOf
import PyProof.Rows.SeqMore2
import PyProof.FactsAll.str_0
import PyProof.FactsAll.str_5
import PyProof.FactsAll.str_7
import PyProof.FactsAll.tuple_2
import PyProof.FactsAll.tuple_3
import PyProof.MinMaxWalk
import PyProof.MeetsSeq
import PyProof.Rows.FStr
import PyProof.Rows.SetFrom
import PyProof.WalksMore
import PyProof.TupleIter
import PyProof.SetKind
import PyProof.FactsAll.set_1
import PyProof.FactsAll.tuple_0
import PySem.Challenge.RW_pourwright_k58_led_by_phases
set_option autoImplicit false
set_option linter.all false
set_option maxRecDepth 100000
set_option exponentiation.threshold 1000
set_option Elab.async false
namespace PySem.W.Fast
theorem tw11180369325173692255:True:=⟨⟩
theorem tw721208708950011679:True:=⟨⟩
theorem tw17531088178494929663:True:=⟨⟩
theorem tw14997151659401164511:True:=⟨⟩
theorem tw921005102849193631:True:=⟨⟩
theorem tw1070660577428620959:True:=⟨⟩
theorem tw1018803082504788607:True:=⟨⟩
theorem tw15640166069694471807:True:=⟨⟩
theorem tw255629955037931071:True:=⟨⟩
theorem tw8705800208552534591:True:=⟨⟩
theorem tw7028558019694589471:True:=⟨⟩
theorem tw14298802307675979167:True:=⟨⟩
theorem tw8949114002729573631:True:=⟨⟩
theorem tw7882334193446481023:True:=⟨⟩
theorem tw10885835894888101758:True:=⟨⟩
theorem tw13721021455461954398:True:=⟨⟩
theorem tw9605688575736287006:True:=⟨⟩
theorem tw3819331403150560958:True:=⟨⟩
theorem tw5152302431609935422:True:=⟨⟩
theorem tw13942863713757117790:True:=⟨⟩
theorem tw11940609263702962494:True:=⟨⟩
theorem tw13659914220087571614:True:=⟨⟩
theorem tw12539846138745151485:True:=⟨⟩
theorem tw4917024476015432669:True:=⟨⟩
theorem tw7149653892988214077:True:=⟨⟩
theorem tw17317346950074314333:True:=⟨⟩
theorem tw16638640878300814909:True:=⟨⟩
theorem tw15351833987518661181:True:=⟨⟩
theorem tw5365712250939349405:True:=⟨⟩
theorem tw15604251305130412285:True:=⟨⟩
theorem tw3537750830248181981:True:=⟨⟩
theorem tw14065497438006480957:True:=⟨⟩
theorem tw1337001764902090748:True:=⟨⟩
theorem tw10129360685320102716:True:=⟨⟩
theorem tw18129802985060208252:True:=⟨⟩
theorem tw10037616850283393564:True:=⟨⟩
theorem tw896103046477777372:True:=⟨⟩
theorem tw10654129391617342876:True:=⟨⟩
theorem tw6759003533748032924:True:=⟨⟩
theorem tw11862301372827368732:True:=⟨⟩
theorem tw2229604895402422556:True:=⟨⟩
theorem tw4436663730857665756:True:=⟨⟩
theorem tw7719250478509164668:True:=⟨⟩
theorem tw6140136555546753116:True:=⟨⟩
theorem tw17114527964433385532:True:=⟨⟩
theorem tw17944725250830976028:True:=⟨⟩
theorem tw13617284638113727451:True:=⟨⟩
theorem tw7105926352445502331:True:=⟨⟩
theorem tw4102465222030495515:True:=⟨⟩
theorem tw12738377445931972315:True:=⟨⟩
theorem tw16392149208189122203:True:=⟨⟩
theorem tw12219929545521327707:True:=⟨⟩
theorem tw11734999688017566235:True:=⟨⟩
theorem tw16664300425699825147:True:=⟨⟩
theorem tw7671199145735159259:True:=⟨⟩
theorem tw6824006478480837019:True:=⟨⟩
theorem tw12207427181580209499:True:=⟨⟩
theorem tw7875414320529263931:True:=⟨⟩
theorem tw14382536457473112379:True:=⟨⟩
theorem tw2179412076682163451:True:=⟨⟩
theorem tw1281338471426043131:True:=⟨⟩
theorem tw7264568025086024923:True:=⟨⟩
theorem tw5368714194869489819:True:=⟨⟩
theorem tw16360633915968749723:True:=⟨⟩
theorem tw5260315031268136059:True:=⟨⟩
theorem tw9422544520007729243:True:=⟨⟩
theorem tw6500675411571050587:True:=⟨⟩
theorem tw17108119200635961371:True:=⟨⟩
theorem tw12130241376865412026:True:=⟨⟩
theorem tw292874740860207706:True:=⟨⟩
theorem tw675036366423146042:True:=⟨⟩
theorem tw11882644414300056762:True:=⟨⟩
theorem tw16021187372282653882:True:=⟨⟩
theorem tw7823728778156915802:True:=⟨⟩
theorem tw2713699886973651417:True:=⟨⟩
theorem tw449152971465598297:True:=⟨⟩
theorem tw12417177051751227545:True:=⟨⟩
theorem tw4983889855111099288:True:=⟨⟩
theorem tw13013425287909360504:True:=⟨⟩
theorem tw17288217547680424792:True:=⟨⟩
theorem tw11445732244867598936:True:=⟨⟩
theorem tw375966944491874840:True:=⟨⟩
theorem tw12896994492037454328:True:=⟨⟩
theorem tw2693406330217705944:True:=⟨⟩
theorem tw15166024558382656920:True:=⟨⟩
theorem tw9561075840383676760:True:=⟨⟩
theorem tw11001372000617579800:True:=⟨⟩
theorem tw12309957917748493560:True:=⟨⟩
theorem tw10594383545645122744:True:=⟨⟩
theorem tw9950685497697040408:True:=⟨⟩
theorem tw17040891629329507352:True:=⟨⟩
theorem tw5398182557757694455:True:=⟨⟩
theorem tw15517130556893736439:True:=⟨⟩
theorem tw11266222822525808087:True:=⟨⟩
theorem tw7315804725969967511:True:=⟨⟩
theorem tw2177932964098764087:True:=⟨⟩
theorem tw17208116410531985495:True:=⟨⟩
theorem tw9601618368927703063:True:=⟨⟩
theorem tw1431376201212833782:True:=⟨⟩
theorem tw9211112359590275958:True:=⟨⟩
theorem tw13494495981864700726:True:=⟨⟩
theorem tw7900827138691087126:True:=⟨⟩
theorem tw6602214426223829750:True:=⟨⟩
theorem tw11898967136986468054:True:=⟨⟩
theorem tw16997100058194249430:True:=⟨⟩
theorem tw17735997062833400502:True:=⟨⟩
theorem tw6325002551737035414:True:=⟨⟩
theorem tw1844085930411771478:True:=⟨⟩
theorem tw10827892838953900470:True:=⟨⟩
theorem tw6668272945943130454:True:=⟨⟩
theorem tw8013736811201596726:True:=⟨⟩
theorem tw8068358028486138134:True:=⟨⟩
theorem tw15635547934998299862:True:=⟨⟩
theorem tw17804476540145286326:True:=⟨⟩
theorem tw14785470629390768214:True:=⟨⟩
theorem tw11913210227489297237:True:=⟨⟩
theorem tw2367681702650680149:True:=⟨⟩
theorem tw10746042870270249781:True:=⟨⟩
theorem tw5693240857804464917:True:=⟨⟩
theorem tw5730551179939712757:True:=⟨⟩
theorem tw6406644391943952021:True:=⟨⟩
theorem tw6388392894329528949:True:=⟨⟩
theorem tw18178491154562713941:True:=⟨⟩
theorem tw7276361313419644117:True:=⟨⟩
theorem tw6661344703555550357:True:=⟨⟩
theorem tw1727377817682687093:True:=⟨⟩
theorem tw15902354212335750197:True:=⟨⟩
theorem tw2050888401621829653:True:=⟨⟩
theorem tw17584963272395988948:True:=⟨⟩
theorem tw1642065296645587924:True:=⟨⟩
theorem tw3087988930730315604:True:=⟨⟩
theorem tw8417749045363986100:True:=⟨⟩
theorem tw8258883337111449172:True:=⟨⟩
theorem tw1784035722560075316:True:=⟨⟩
theorem tw6755320976772186676:True:=⟨⟩
theorem tw17338869550821816852:True:=⟨⟩
theorem tw17514297136511035892:True:=⟨⟩
theorem tw10515518091539460564:True:=⟨⟩
theorem tw17767278695013558740:True:=⟨⟩
theorem tw4735237958555175284:True:=⟨⟩
theorem tw17054181640583107796:True:=⟨⟩
theorem tw4601817876023189716:True:=⟨⟩
theorem tw12014817676522831988:True:=⟨⟩
theorem tw14172623136863027284:True:=⟨⟩
theorem tw2581863046462667763:True:=⟨⟩
theorem tw16403817090953879475:True:=⟨⟩
theorem tw11553488769454494611:True:=⟨⟩
theorem tw12209060880666913587:True:=⟨⟩
theorem tw3793103887069206195:True:=⟨⟩
theorem tw6511798202535772819:True:=⟨⟩
theorem tw9907548146416078419:True:=⟨⟩
theorem tw13674926574913265139:True:=⟨⟩
theorem tw6361656452485644787:True:=⟨⟩
theorem tw17765411872735594803:True:=⟨⟩
theorem tw12982810658340251923:True:=⟨⟩
theorem tw15295468494364832947:True:=⟨⟩
theorem tw9032677414034908339:True:=⟨⟩
theorem tw2349181653686891667:True:=⟨⟩
theorem tw17800860501939003250:True:=⟨⟩
theorem tw16031818214541487922:True:=⟨⟩
theorem tw12886117699307682450:True:=⟨⟩
theorem tw9061984469821545074:True:=⟨⟩
theorem tw1079578719564051026:True:=⟨⟩
theorem tw1198650297060303442:True:=⟨⟩
theorem tw14388881578180529650:True:=⟨⟩
theorem tw14939760061784670610:True:=⟨⟩
theorem tw6069729665806238066:True:=⟨⟩
theorem tw1099216734702101714:True:=⟨⟩
theorem tw355371847836955826:True:=⟨⟩
theorem tw9077816321255343921:True:=⟨⟩
theorem tw13790474924191265169:True:=⟨⟩
theorem tw14022647681697097905:True:=⟨⟩
theorem tw11914870596113533041:True:=⟨⟩
theorem tw13414612545074480177:True:=⟨⟩
theorem tw12791936156732333105:True:=⟨⟩
theorem tw4551885537905338352:True:=⟨⟩
theorem tw16698776727756353328:True:=⟨⟩
theorem tw2801385721559328528:True:=⟨⟩
theorem tw1446521903197470352:True:=⟨⟩
theorem tw14007741553979963984:True:=⟨⟩
theorem tw14290797816846326352:True:=⟨⟩
theorem tw9832245271848008112:True:=⟨⟩
theorem tw10171868097603734960:True:=⟨⟩
theorem tw13373523040496450864:True:=⟨⟩
theorem tw15331567846239752400:True:=⟨⟩
theorem tw10120559582749120592:True:=⟨⟩
theorem tw2280356063701478319:True:=⟨⟩
theorem tw14653405092199391055:True:=⟨⟩
theorem tw14586267168784301775:True:=⟨⟩
theorem tw4445813957932552911:True:=⟨⟩
theorem tw838749814424466095:True:=⟨⟩
theorem tw8416871104304375471:True:=⟨⟩
theorem tw4494643420457501359:True:=⟨⟩
theorem tw8205864544823657999:True:=⟨⟩
theorem tw2631685851494280527:True:=⟨⟩
theorem tw2468277983901514031:True:=⟨⟩
theorem tw5455399910000956655:True:=⟨⟩
theorem tw2506974834534603791:True:=⟨⟩
theorem tw7745393572260047790:True:=⟨⟩
theorem tw15910647750550597486:True:=⟨⟩
theorem tw11255042134973824750:True:=⟨⟩
theorem tw15321492688498249422:True:=⟨⟩
theorem tw11636634360086394222:True:=⟨⟩
theorem tw8450832671016394030:True:=⟨⟩
theorem tw14621617495156377774:True:=⟨⟩
theorem tw9269165512033048750:True:=⟨⟩
theorem tw11100583332057522318:True:=⟨⟩
theorem tw13440308835358301262:True:=⟨⟩
theorem tw15876708385161218126:True:=⟨⟩
theorem tw15478357538211995662:True:=⟨⟩
theorem tw17653389956699215821:True:=⟨⟩
theorem tw2137545887618625453:True:=⟨⟩
theorem tw12313097580799613869:True:=⟨⟩
theorem tw15106410327857873805:True:=⟨⟩
theorem tw17326787831439233901:True:=⟨⟩
theorem tw18154394839886318381:True:=⟨⟩
theorem tw13198538966788347693:True:=⟨⟩
theorem tw6494563009074064141:True:=⟨⟩
theorem tw12674585629955563277:True:=⟨⟩
theorem tw15785033197353172557:True:=⟨⟩
theorem tw4660094921916123693:True:=⟨⟩
theorem tw2832442385579524557:True:=⟨⟩
theorem tw11413158457803029965:True:=⟨⟩
theorem tw15715008227512756685:True:=⟨⟩
theorem tw17065287353320271117:True:=⟨⟩
theorem tw8644516673836021965:True:=⟨⟩
theorem tw15713606586600382605:True:=⟨⟩
theorem tw16880135594516693133:True:=⟨⟩
theorem tw519304247218666541:True:=⟨⟩
theorem tw6840951421722440749:True:=⟨⟩
theorem tw8858173885772887020:True:=⟨⟩
theorem tw13113986056641232844:True:=⟨⟩
theorem tw2098163195590304684:True:=⟨⟩
theorem tw7477320334136114892:True:=⟨⟩
theorem tw2764937781810608780:True:=⟨⟩
theorem tw16938562637735129612:True:=⟨⟩
theorem tw10545756212127597068:True:=⟨⟩
theorem tw15997163701907674604:True:=⟨⟩
theorem tw14082280336628771276:True:=⟨⟩
theorem tw18043898903699835276:True:=⟨⟩
theorem tw10940131856623540588:True:=⟨⟩
theorem tw14875841592123020556:True:=⟨⟩
theorem tw12583378649469918444:True:=⟨⟩
theorem tw17076510675601443948:True:=⟨⟩
theorem tw14538631783307673708:True:=⟨⟩
theorem tw4032877199453291532:True:=⟨⟩
theorem tw13793354504854952779:True:=⟨⟩
theorem tw7499745340715782827:True:=⟨⟩
theorem tw10757093077894259339:True:=⟨⟩
theorem tw2430092076191063627:True:=⟨⟩
theorem tw10911688979397761579:True:=⟨⟩
theorem tw15115911351819496971:True:=⟨⟩
theorem tw83250221078177067:True:=⟨⟩
theorem tw7442101392462833931:True:=⟨⟩
theorem tw1172868228153683211:True:=⟨⟩
theorem tw11041607704075380971:True:=⟨⟩
theorem tw12872390526723377130:True:=⟨⟩
theorem tw5393317358917823466:True:=⟨⟩
theorem tw4711913291740994346:True:=⟨⟩
theorem tw5610398585820796714:True:=⟨⟩
theorem tw14384464090945258986:True:=⟨⟩
theorem tw11628069669154996650:True:=⟨⟩
theorem tw5560687647312560426:True:=⟨⟩
theorem tw17915395928993367114:True:=⟨⟩
theorem tw13918785787929520170:True:=⟨⟩
theorem tw1009818158184302602:True:=⟨⟩
theorem tw10674433760682050505:True:=⟨⟩
theorem tw13770499210258102857:True:=⟨⟩
theorem tw6778558028354004457:True:=⟨⟩
theorem tw6543657872883761545:True:=⟨⟩
theorem tw18079627618481934729:True:=⟨⟩
theorem tw14261906010048350537:True:=⟨⟩
theorem tw7079056654951555401:True:=⟨⟩
theorem tw12491721024004874345:True:=⟨⟩
theorem tw17686558656088894473:True:=⟨⟩
theorem tw11866845403204710376:True:=⟨⟩
theorem tw11672102662011231176:True:=⟨⟩
theorem tw11517070790252512072:True:=⟨⟩
theorem tw538811744549094056:True:=⟨⟩
theorem tw15952149981728426632:True:=⟨⟩
theorem tw15935430216370880104:True:=⟨⟩
theorem tw11569272532756670056:True:=⟨⟩
theorem tw1628129720705334824:True:=⟨⟩
theorem tw14953811803558787624:True:=⟨⟩
theorem tw12575115162529435176:True:=⟨⟩
theorem tw8787512229445679496:True:=⟨⟩
theorem tw14228537011138179272:True:=⟨⟩
theorem tw15955454745914941480:True:=⟨⟩
theorem tw3313095961058103239:True:=⟨⟩
theorem tw9778733886891763431:True:=⟨⟩
theorem tw16510230562650225127:True:=⟨⟩
theorem tw14475435600845456839:True:=⟨⟩
theorem tw13646912194928326087:True:=⟨⟩
theorem tw1059419575131237799:True:=⟨⟩
theorem tw5259631239860457799:True:=⟨⟩
theorem tw16465210330338751783:True:=⟨⟩
theorem tw13777637935977614375:True:=⟨⟩
theorem tw7395509721509991431:True:=⟨⟩
theorem tw16621582881273705318:True:=⟨⟩
theorem tw12398149902809440070:True:=⟨⟩
theorem tw16530318311756920550:True:=⟨⟩
theorem tw15725417363460753030:True:=⟨⟩
theorem tw2949178955391128070:True:=⟨⟩
theorem tw7949501802573734374:True:=⟨⟩
theorem tw12346227681269779846:True:=⟨⟩
theorem tw608629483623698598:True:=⟨⟩
theorem tw1917567606238944390:True:=⟨⟩
theorem tw16926390794888526757:True:=⟨⟩
theorem tw15701980920996557701:True:=⟨⟩
theorem tw139429610120701733:True:=⟨⟩
theorem tw15760988925988011717:True:=⟨⟩
theorem tw15172814133660700325:True:=⟨⟩
theorem tw1833958133159768613:True:=⟨⟩
theorem tw14117569112662070789:True:=⟨⟩
theorem tw11712493120717900293:True:=⟨⟩
theorem tw6398668585967445317:True:=⟨⟩
theorem tw1817934617581688133:True:=⟨⟩
theorem tw7515595088776473829:True:=⟨⟩
theorem tw10897153360971470021:True:=⟨⟩
theorem tw17492426717850407748:True:=⟨⟩
theorem tw3154819480352589636:True:=⟨⟩
theorem tw921843623613180676:True:=⟨⟩
theorem tw9568467101494143588:True:=⟨⟩
theorem tw12087721403376381508:True:=⟨⟩
theorem tw10173620091254636036:True:=⟨⟩
theorem tw3713978248454339012:True:=⟨⟩
theorem tw4107086095143358852:True:=⟨⟩
theorem tw5663659847717914980:True:=⟨⟩
theorem tw2477045978101327140:True:=⟨⟩
theorem tw10910358783761778948:True:=⟨⟩
theorem tw13067747608649041092:True:=⟨⟩
theorem tw7658719541601572004:True:=⟨⟩
theorem tw7503897843328949284:True:=⟨⟩
theorem tw6273353873348365316:True:=⟨⟩
theorem tw930209778337909667:True:=⟨⟩
theorem tw3093549770707940035:True:=⟨⟩
theorem tw17860175928157309379:True:=⟨⟩
theorem tw3732004467880808771:True:=⟨⟩
theorem tw4508615876647107811:True:=⟨⟩
theorem tw1961664708308594755:True:=⟨⟩
theorem tw10736173171149146147:True:=⟨⟩
theorem tw14464279574420219907:True:=⟨⟩
theorem tw11012434526135345122:True:=⟨⟩
theorem tw5666364944678952706:True:=⟨⟩
theorem tw14311781617666908834:True:=⟨⟩
theorem tw4746191494893943362:True:=⟨⟩
theorem tw10512137338604058114:True:=⟨⟩
theorem tw13793662768008824258:True:=⟨⟩
theorem tw5999603108879540642:True:=⟨⟩
theorem tw13792842821735727490:True:=⟨⟩
theorem tw12870688376419127426:True:=⟨⟩
theorem tw10959096035532255201:True:=⟨⟩
theorem tw704610363876819905:True:=⟨⟩
theorem tw7571931886174073761:True:=⟨⟩
theorem tw16686586888218694337:True:=⟨⟩
theorem tw16104290248826073761:True:=⟨⟩
theorem tw4736803190878845569:True:=⟨⟩
theorem tw16525266804486582913:True:=⟨⟩
theorem tw3753019093823907297:True:=⟨⟩
theorem tw3138769552337715681:True:=⟨⟩
theorem tw6540508546030911937:True:=⟨⟩
theorem tw14026506433684022721:True:=⟨⟩
theorem tw4424221553206660545:True:=⟨⟩
theorem tw2637327848757722529:True:=⟨⟩
theorem tw11225729021280209089:True:=⟨⟩
theorem tw9254006786951472193:True:=⟨⟩
theorem tw5920324514589554753:True:=⟨⟩
theorem tw17526690162342005761:True:=⟨⟩
theorem tw13871739785504844672:True:=⟨⟩
theorem tw14293320656013488928:True:=⟨⟩
theorem tw10265982639540496992:True:=⟨⟩
theorem tw360764394178690592:True:=⟨⟩
theorem tw6163335892445990112:True:=⟨⟩
theorem tw972663788709908608:True:=⟨⟩
theorem tw17447801684548630624:True:=⟨⟩
theorem tw17053285985257288768:True:=⟨⟩
theorem tw3782651675410188320:True:=⟨⟩
theorem tw8463109568495729771:True:=⟨⟩
theorem tw7378483681297231796:True:=⟨⟩
end PySem.W.Fast
section
set_option Elab.async false
namespace L2
open PySem PySem.Spec PyProof.Rows
noncomputable abbrev Key:=Sum Int Str
noncomputable def Wai:Key->Value->Bool
 | .inl k,v=>Value.isInt k v
 | .inr x,v=>Value.isStrOf x v
noncomputable def keyH (w:World):Key->Int
 | .inl k=>hashInt k
 | .inr x=>hashStr w x
theorem Wc:∀ {k:Key} {v:Value},Wai k v=true->(∃ i t,k=Sum.inl i/\v=Value.int i t)∨(∃ x t,k=Sum.inr x/\v=Value.str x t)
 | .inl i,v,h=>by
  obtain ⟨t,e⟩:=Value.isInt_shape (k:=i) (v:=v) h
  exact .inl ⟨i,t,rfl,e⟩
 | .inr x,v,h=>by
  obtain ⟨t,e⟩:=Value.isStrOf_shape (x:=x) (v:=v) h
  exact .inr ⟨x,t,rfl,e⟩
theorem Ybo (i:Int) (t:Tok):Wai (.inl i) (.int i t)=true:=by simp [Wai,Value.isInt]
theorem Zbo (x:Str) (t:Tok):Wai (.inr x) (.str x t)=true:=by simp [Wai,Value.isStrOf]
theorem key_ll (a b:Int):decide ((Sum.inl a:Key)=Sum.inl b)=(a == b):=by
 by_cases e:a=b
 ·subst e; simp
 ·have h:¬ (Sum.inl a:Key)=Sum.inl b:=fun q=>e (Sum.inl.inj q)
  rw [decide_eq_false h]
  exact (beq_eq_false_iff_ne.mpr e).symm
theorem key_rr (a b:Str):decide ((Sum.inr a:Key)=Sum.inr b)=decide (a=b):=by
 by_cases e:a=b
 ·subst e; simp
 ·have h:¬ (Sum.inr a:Key)=Sum.inr b:=fun q=>e (Sum.inr.inj q)
  rw [decide_eq_false h,decide_eq_false e]
theorem key_lr (a:Int) (b:Str):decide ((Sum.inl a:Key)=Sum.inr b)=false:=decide_eq_false (fun q=>nomatch q)
theorem key_rl (a:Str) (b:Int):decide ((Sum.inr a:Key)=Sum.inl b)=false:=decide_eq_false (fun q=>nomatch q)
noncomputable def Ve (prog:Program) (w:World):PySem.KeyKind prog w Key where
 is:=Wai
 hash:=keyH w
 inj:=fun v a b ha hb=>by
  rcases Wc ha with ⟨i,t,rfl,rfl⟩ | ⟨x,t,rfl,rfl⟩
  ·rcases Wc hb with ⟨j,u,rfl,e⟩ | ⟨y,u,rfl,e⟩
   ·injection e with e1 _; rw [e1]
   ·exact nomatch e
  ·rcases Wc hb with ⟨j,u,rfl,e⟩ | ⟨y,u,rfl,e⟩
   ·exact nomatch e
   ·injection e with e1 _; rw [e1]
 byValue:=fun k v h=>by
  rcases Wc h with ⟨i,t,rfl,rfl⟩ | ⟨x,t,rfl,rfl⟩ <;> rfl
 pyHash:=fun hv h=>by
  rcases Wc hv with ⟨i,t,rfl,rfl⟩ | ⟨x,t,rfl,rfl⟩
  ·exact wpAny_pyHash_int h
  ·exact wpAny_pyHash_str h
 eqBool:=fun hu hv h=>by
  rcases Wc hu with ⟨i,t,rfl,rfl⟩ | ⟨x,t,rfl,rfl⟩
  ·rcases Wc hv with ⟨j,u,rfl,rfl⟩ | ⟨y,u,rfl,rfl⟩
   ·rw [key_ll] at h; exact wpAny_eqBool_int h
   ·rw [key_lr] at h; exact SeqAt.EqAt.int_str i t y u _ _ _ _ h
  ·rcases Wc hv with ⟨j,u,rfl,rfl⟩ | ⟨y,u,rfl,rfl⟩
   ·rw [key_rl] at h; exact SeqAt.EqAt.str_int x t j u _ _ _ _ h
   ·rw [key_rr] at h; exact wpAny_eqBool_str h
 «strs»:=fun k x t v h=>by
  rcases Wc h with ⟨i,u,rfl,e⟩ | ⟨y,u,rfl,e⟩
  ·exact nomatch e
  ·injection e with e1 _
   subst e1
   cases v <;> rfl
theorem Waq (prog:Program) (w:World) (i:Int) (t:Tok):(Ve prog w).is (.inl i) (.int i t)=true:=Ybo i t
theorem Xaq (prog:Program) (w:World) (x:Str) (t:Tok):(Ve prog w).is (.inr x) (.str x t)=true:=Zbo x t
end L2
namespace L2
open PySem PySem.Spec PyProof.Rows
inductive V where
 | non | bl (b:Bool) | int (i:Int) | str (x:Str) | byt (b:Array UInt8) | flt (b:UInt64) | ref (a:Addr) | ty (n:String)
 deriving DecidableEq
noncomputable def RelV:V->Value->Prop
 | .non,u=>u=Value.none
 | .bl b,u=>u=Value.bool b
 | .int i,u=>∃ t,u=Value.int i t
 | .str x,u=>∃ t,u=Value.str x t
 | .byt b,u=>∃ t,u=Value.bytes b t
 | .flt b,u=>∃ t,u=Value.float b t
 | .ref a,u=>u=Value.ref a
 | .ty n,u=>u=Value.type n
noncomputable abbrev Vals:List V->List Value->Prop:=Paired RelV
theorem Vals.length {xs:List V} {us:List Value} (r:Vals xs us):xs.length=us.length:=Paired.length r
theorem Vals.get:∀ {xs:List V} {us:List Value} {i:Nat} {x:V},Vals xs us->xs[i]? = some x->∃ u,us[i]? = some u/\RelV x u
 | _,_,_,_,.nil,e=>by simp at e
 | _,_,0,_,.cons r _,e=>by simp at e; subst e; exact ⟨_,rfl,r⟩
 | _,_,i + 1,x,.cons _ t,e=>by
  obtain ⟨u,h1,h2⟩:=Vals.get (i:=i) (x:=x) t (by simpa using e)
  exact ⟨u,by simpa using h1,h2⟩
theorem Vals.set {x:V} {u:Value} (r:RelV x u):∀ {xs:List V} {us:List Value} (i:Nat),Vals xs us->Vals (xs.set i x) (us.set i u)
 | _,_,_,.nil=>.nil
 | _,_,0,.cons _ t=>.cons r t
 | _,_,i + 1,.cons q t=>.cons q (Vals.set r i t)
theorem Vals.append:∀ {xs ys:List V} {us ws:List Value},Vals xs us->Vals ys ws->Vals (xs ++ ys) (us ++ ws)
 | _,_,_,_,.nil,s=>s
 | _,_,_,_,.cons r t,s=>.cons r (Vals.append t s)
theorem Vals.take:∀ {xs:List V} {us:List Value} (n:Nat),Vals xs us->Vals (xs.take n) (us.take n)
 | _,_,0,_=>.nil
 | _,_,_ + 1,.nil=>.nil
 | _,_,n + 1,.cons r t=>.cons r (Vals.take n t)
theorem Vals.drop:∀ {xs:List V} {us:List Value} (n:Nat),Vals xs us->Vals (xs.drop n) (us.drop n)
 | _,_,0,r=>r
 | _,_,_ + 1,.nil=>.nil
 | _,_,n + 1,.cons _ t=>Vals.drop n t
noncomputable def RelO:Option V->Option Value->Prop
 | some v,some u=>RelV v u
 | none,none=>True
 | _,_=>False
noncomputable def KV {κ:Type}:List (κ×V)->List (κ×Value)->Prop:=Paired fun (p:κ×V) (q:κ×Value)=>p.1=q.1/\RelV p.2 q.2
noncomputable def kV:Key->V
 | .inl i=>.int i
 | .inr x=>.str x
structure Tab where
 q:Str
 ps:Array Value
instance:HAppend Tab (Array Value) Tab:=⟨fun t m=>⟨t.q,t.ps ++ m⟩⟩
theorem Tab.assoc (t:Tab) (a b:Array Value):t ++ a ++ b=t ++ (a ++ b):=by show Tab.mk t.q (t.ps ++ a ++ b)=Tab.mk t.q (t.ps ++ (a ++ b)); rw [Array.append_assoc]
@[simp] theorem Tab.nil (t:Tab):t ++ (#[]:Array Value)=t:=by show Tab.mk t.q (t.ps ++ #[])=t; rw [Array.append_empty]
inductive HO where
  | lst (xs:List V)
  | tup (xs:List V)
  | dK (kvs:List (Key×V)) | dT (kvs:List (List Key×V))
  | set (S:Int->Bool) (n:Nat)
  | ins (C dx:Addr) (fs:List (Str×V))
  | own (x:Addr)
  | xd (fs:List (Str×V))
  | met (f x:Addr)
  | rng (lo hi:Int)
  | frz (o:Obj) (u:HO)
  | tbl (t:Tab)
  | ext (φ:Heap->Prop)
noncomputable abbrev Hp:=Addr->Option HO
noncomputable def upd (H:Hp) (a:Addr) (o:HO):Hp:=fun b=>if b=a then some o else H b
theorem Yc {H:Hp} {a:Addr} {o:HO}:upd H a o a=some o:=by unfold upd; rw [if_pos rfl]
theorem Vb {H:Hp} {a b:Addr} {o:HO} (h:b≠a):upd H a o b=H b:=by unfold upd; rw [if_neg h]
theorem Xc {H:Hp} {a b:Addr} {o:HO} (h:H a=some o) (h':H b=none):a≠b:=by
 intro e; subst e; rw [h] at h'; cases h'
noncomputable def IsTupN (h:Heap) (a:Addr) (items:Array Value):Prop:=∃ o,h.get? a=some o/\o.cls = .type "tuple"/\∃ n,o.data = .seq items n/\o.dict=none
theorem IsTupN.is {h:Heap} {a:Addr} {items:Array Value} (x:IsTupN h a items):IsTup h a items:=by obtain ⟨o,e,c,n,d,_⟩:=x; exact ⟨o,e,c,n,d⟩
theorem IsTupN.lt {h:Heap} {a:Addr} {items:Array Value} (x:IsTupN h a items):a < h.objs.size:=by obtain ⟨o,e,_⟩:=x; exact Heap.lt_size e
theorem IsTupN.new (h:Heap) (items:Array Value):IsTupN (h.push { cls:=.type "tuple",data:=.seq items }) h.objs.size items:=⟨_,Heap.get?_push_size _ rfl,rfl,_,rfl,rfl⟩
section
variable (P:Program) (w:World)
noncomputable def ObjOk (H:Hp) (h:Heap) (a:Addr):HO->Prop
 | .lst xs=>xs.length<=sizeLine/\∃ (its:List Value) (n:Nat),Vals xs its/\h.get? a=some { cls:=.type "list",data:=.seq its.toArray n }
 | .tup xs=>xs.length<=sizeLine/\∃ its:List Value,Vals xs its/\IsTupN h a its.toArray
 | .dK kvs=>kvs.length<=sizeLine/\(a == sysModules)=false/\∃ vs,KV kvs vs/\h.DictOf (Ve P w) a vs
 | .dT kvs=>kvs.length<=sizeLine/\(a == sysModules)=false/\∃ xs:List (List Key×Addr×Value),
   Paired (fun (p:List Key×V) (q:List Key×Addr×Value)=>p.1=q.1/\H q.2.1=some (.tup (p.1.map kV))/\RelV p.2 q.2.2) kvs xs /\
   ∃ o es ep,h.get? a=some o/\o.ExactDict/\o.data = .dict es ep/\es.toList=xs.map (entryOfKey (tupleKind (Ve P w)))/\(xs.map (·.1)).Nodup
 | .set S n=>h.SetOf (intKind P w) a S n
 | .ins C dx fs=>H dx=some (.own a)/\fs.length<=1000/\dx≠a/\h.get? a=some (PySem.W.instObj C dx) /\
   ∃ mA,h.Ns1 dx mA/\(∀ f,RelO (fs.lookup f) (mA f))/\PySem.Within mA (fs.map (·.1))
 | .own _=>∃ o,h.get? a=some o
 | .xd fs=>∃ mA,h.Ns1 a mA/\∀ f,RelO (fs.lookup f) (mA f)
 | .rng lo hi=>∃ t u v,h.get? a=some { cls:=.type "range",data:=.fields #[.int lo t,.int hi u,.int 1 v] }
 | .frz o u=>h.get? a=some o/\ObjOk H h a u
 | .tbl t=>h.get? a=some { cls:=.none,data:=.fields t.ps }/\TriplesOk t.ps.toList/\∀ pos cv,codeAmong pos t.ps.toList=some cv->∃ c oc vs tq,cv = .ref c/\H c=some (.own a)/\h.get? c=some oc/\oc.data = .fields vs/\vs[1]? = some (.str t.q tq)
 | .met f x=>h.get? a=some (PySem.W.methodObj (.ref f) (.ref x))
 | .ext φ=>φ h/\(∃ o,h.get? a=some o)/\∀ h1 h2:Heap,φ h1->(∀ o,h1.get? a=some o->h2.get? a=some o)->φ h2
noncomputable def HOk (H:Hp) (h:Heap):Prop:=∀ a o,H a=some o->ObjOk P w H h a o
end
section
variable {P:Program} {w:World} {H H':Hp} {h h':Heap} {a:Addr} {o:HO}
theorem ObjOk.lt (x:ObjOk P w H h a o):a < h.objs.size:=by
 cases o with
 | lst xs=>obtain ⟨_,_,_,_,e⟩:=x; exact Heap.lt_size e
 | tup xs=>obtain ⟨_,_,_,p⟩:=x; exact p.lt
 | dK kvs=>obtain ⟨_,_,_,_,o,_,_,e,_⟩:=x; exact Heap.lt_size e
 | dT kvs=>obtain ⟨_,_,_,_,o,_,_,e,_⟩:=x; exact Heap.lt_size e
 | set S n=>obtain ⟨o,_,_,_,e,_⟩:=x; exact Heap.lt_size e
 | ins C dx fs=>obtain ⟨_,_,_,e,_⟩:=x; exact Heap.lt_size e
 | own y=>obtain ⟨_,e⟩:=x; exact Heap.lt_size e
 | xd fs=>obtain ⟨_,⟨_,_,_,e,_⟩,_⟩:=x; exact Heap.lt_size e
 | rng lo hi=>obtain ⟨_,_,_,e⟩:=x; exact Heap.lt_size e
 | frz ob u=>obtain ⟨e,_⟩:=x; exact Heap.lt_size e
 | tbl t=>exact Heap.lt_size (show h.get? a=some _ from x.1)
 | met f y=>exact Heap.lt_size (show h.get? a=some _ from x)
 | ext φ=>obtain ⟨_,⟨_,e⟩,_⟩:=x; exact Heap.lt_size e
theorem Paired.mapP {α β:Type} {F G:α->β->Prop}:∀ {l₁:List α} {l₂:List β},Paired F l₁ l₂->(∀ a b,F a b->G a b)->Paired G l₁ l₂
 | _,_,.nil,_=>.nil
 | _,_,.cons r t,f=>.cons (f _ _ r) (Paired.mapP t f)
theorem ObjOk.stay (x:ObjOk P w H h a o) (k:∀ b u,(b=a∨H b=some (.own a))->h.get? b=some u->h'.get? b=some u)
  (ho:∀ b,H b=some (.own a)->H' b=some (.own a)) (ht:∀ b xs,H b=some (.tup xs)->H' b=some (.tup xs)):ObjOk P w H' h' a o:=by
 induction o with
 | lst xs=>obtain ⟨z,its,n,r,e⟩:=x; exact ⟨z,its,n,r,k _ _ (.inl rfl) e⟩
 | tup xs=>obtain ⟨z,its,r,ob,e,c⟩:=x; exact ⟨z,its,r,ob,k _ _ (.inl rfl) e,c⟩
 | dK kvs=>obtain ⟨z,y,vs,r,ob,es,ep,e,c⟩:=x; exact ⟨z,y,vs,r,ob,es,ep,k _ _ (.inl rfl) e,c⟩
 | dT kvs =>
  obtain ⟨z,y,xs,r,ob,es,ep,e,c⟩:=x
  exact ⟨z,y,xs,Paired.mapP r fun p q z=>⟨z.1,ht _ _ z.2.1,z.2.2⟩,ob,es,ep,k _ _ (.inl rfl) e,c⟩
 | set S n=>obtain ⟨ob,es,ep,t,e,c⟩:=x; exact ⟨ob,es,ep,t,k _ _ (.inl rfl) e,c⟩
 | ins C dx fs =>
  obtain ⟨d,z,ne,e,mA,⟨od,es,ep,e2,c⟩,r⟩:=x
  exact ⟨ho _ d,z,ne,k _ _ (.inl rfl) e,mA,⟨od,es,ep,k _ _ (.inr d) e2,c⟩,r⟩
 | own y=>obtain ⟨ob,e⟩:=x; exact ⟨ob,k _ _ (.inl rfl) e⟩
 | xd fs=>obtain ⟨mA,⟨od,es,ep,e,c⟩,r⟩:=x; exact ⟨mA,⟨od,es,ep,k _ _ (.inl rfl) e,c⟩,r⟩
 | rng lo hi=>obtain ⟨t,u,v,e⟩:=x; exact ⟨t,u,v,k _ _ (.inl rfl) e⟩
 | frz ob u ih=>obtain ⟨e,q⟩:=x; exact ⟨k _ _ (.inl rfl) e,ih q⟩
 | tbl t =>
  obtain ⟨e,z,q⟩:=x
  refine ⟨k a _ (.inl rfl) e,z,fun pos cv y=>?_⟩
  obtain ⟨c,oc,vs,tq,r1,r2,r3,r4⟩:=q pos cv y
  exact ⟨c,oc,vs,tq,r1,ho _ r2,k _ _ (.inr r2) r3,r4⟩
 | met f y =>
  have e:h.get? a=some (PySem.W.methodObj (.ref f) (.ref y)):=x
  show h'.get? a=some (PySem.W.methodObj (.ref f) (.ref y))
  exact k a _ (.inl rfl) e
 | ext φ=>obtain ⟨p,⟨o,e⟩,st⟩:=x; exact ⟨st _ _ p fun o q=>k _ _ (.inl rfl) q,⟨o,k _ _ (.inl rfl) e⟩,st⟩
theorem HOk.lt (x:HOk P w H h) (e:H a=some o):a < h.objs.size:=(x a o e).lt
theorem HOk.fresh (x:HOk P w H h) (e:h.objs.size<=a):H a=none:=by
 cases q:H a with
 | none=>rfl
 | some u=>exact absurd (Nat.lt_of_lt_of_le (x.lt q) e) (Nat.lt_irrefl _)
theorem HOk.kept (x:HOk P w H h) (k:∀ b u,h.get? b=some u->h'.get? b=some u):HOk P w H h':=fun a o e =>
 (x a o e).stay (fun b u _ q=>k b u q) (fun _ q=>q) fun _ _ q=>q
theorem HOk.laid (x:HOk P w H h) (k:∀ b u,h.get? b=some u->h'.get? b=some u) (hp:h.objs.size<=a) (new:ObjOk P w (upd H a o) h' a o):HOk P w (upd H a o) h':=fun b u e=>by
 have hn:=x.fresh hp
 by_cases hb:b=a
 ·subst hb; rw [Yc] at e; cases e; exact new
 ·rw [Vb hb] at e
  exact (x b u e).stay (fun c v _ q=>k c v q) (fun c q=>by rw [Vb (Xc q hn)]; exact q) fun c xs q=>by rw [Vb (Xc q hn)]; exact q
end
noncomputable def Rd (H:Hp) (a:Addr) (u:HO):Prop:=H a=some u∨∃ o,H a=some (.frz o u)
theorem Rd.of {H:Hp} {a:Addr} {u:HO} (h:H a=some u):Rd H a u:=.inl h
theorem Rd.ok {P:Program} {w:World} {H:Hp} {h:Heap} {a:Addr} {u:HO} (r:Rd H a u) (x:HOk P w H h):ObjOk P w H h a u:=by
 rcases r with r | ⟨o,r⟩
 ·exact x a u r
 ·obtain ⟨_,q⟩:=x a _ r
  exact q
noncomputable def Mut:Option HO->Prop
 | some (.lst _)=>True
 | some (.dK _)=>True
 | some (.dT _)=>True
 | some (.set _ _)=>True
 | some (.ins _ _ _)=>True
 | some (.ext _)=>True
 | _=>False
section
variable {P:Program} {w:World} {H:Hp} {h h':Heap} {x e:Addr} {o':HO}
theorem HOk.write (ok:HOk P w H h) (mu:Mut (H x)) (he:e=x∨H e=some (.own x)) (k:∀ b u,b≠e->h.get? b=some u->h'.get? b=some u) (heo:∃ u,h'.get? e=some u)
  (new:ObjOk P w (upd H x o') h' x o'):HOk P w (upd H x o') h':=fun b u q=>by
 have nown:∀ c y,H c=some (.own y)->c≠x:=fun c y r z=>by subst z; rw [r] at mu; exact mu
 have ntup:∀ c xs,H c=some (.tup xs)->c≠x:=fun c xs r z=>by subst z; rw [r] at mu; exact mu
 by_cases hb:b=x
 ·subst hb; rw [Yc] at q; cases q; exact new
 ·rw [Vb hb] at q
  by_cases hbe:b=e
  ·have q':H b=some (.own x):=by
    rcases he with z | z
    ·exact absurd (hbe.trans z) hb
    ·rw [hbe]; exact z
   rw [q] at q'; cases q'
   obtain ⟨v,hv⟩:=heo
   exact ⟨v,by rw [hbe]; exact hv⟩
  ·refine (ok b u q).stay (fun c v hc r=>k c v ?_ r) (fun c r=>by rw [Vb (nown c b r)]; exact r) fun c xs r=>by rw [Vb (ntup c xs r)]; exact r
   rcases hc with rfl | hc
   ·exact hbe
   ·rintro rfl
    rcases he with z | z
    ·exact nown c b hc z
    ·rw [hc] at z; cases z; exact hb rfl
end
structure Un (fs ex:List Addr) (H H':Hp) (h h':Heap):Prop where
 keep:∀ b o,h.get? b=some o->H b=none->b ∉ fs->b ∉ ex->h'.get? b=some o
 slot:∀ b o,h.get? b=some o->H b=none->b∈fs->b ∉ ex->∃ sl,h'.get? b=some { o with slots:=sl }
 free:∀ b o,h.get? b=some o->H b=none->b ∉ ex->H' b=none
 there:∀ b o,h.get? b=some o->b ∉ ex->∃ o',h'.get? b=some o'
 tups:∀ b xs,H b=some (.tup xs)->H' b=some (.tup xs)
 frzs:∀ b o u,H b=some (.frz o u)->H' b=some (.frz o u)
 tbls:∀ b ps,H b=some (.tbl ps)->∃ more:Array Value,H' b=some (.tbl (ps ++ more))
section
variable {fs fs' ex ex':List Addr} {H H1 H2:Hp} {h h1 h2 h':Heap} {a x e:Addr} {o:HO}
theorem Un.any (u:Un fs ex H H1 h h1) {b:Addr} {ob:Obj} (q:h.get? b=some ob) (n:H b=none) (hx:b ∉ ex):∃ sl,h1.get? b=some { ob with slots:=sl }:=by
 by_cases hb:b∈fs
 ·exact u.slot b ob q n hb hx
 ·exact ⟨ob.slots,u.keep b ob q n hb hx⟩
theorem Un.trans (a:Un fs ex H H1 h h1) (b:Un fs ex H1 H2 h1 h2):Un fs ex H H2 h h2 where
 keep:=fun c ob q n hc hx=>b.keep c ob (a.keep c ob q n hc hx) (a.free c ob q n hx) hc hx
 slot:=fun c ob q n hc hx=>by
  obtain ⟨sl,e1⟩:=a.slot c ob q n hc hx
  obtain ⟨sl',e2⟩:=b.slot c _ e1 (a.free c ob q n hx) hc hx
  exact ⟨sl',e2⟩
 free:=fun c ob q n hx=>by
  obtain ⟨o',e1⟩:=a.there c ob q hx
  exact b.free c o' e1 (a.free c ob q n hx) hx
 there:=fun c ob q hx=>by
  obtain ⟨o',e1⟩:=a.there c ob q hx
  exact b.there c o' e1 hx
 tups:=fun c xs q=>b.tups c xs (a.tups c xs q)
 frzs:=fun c ob xs q=>b.frzs c ob xs (a.frzs c ob xs q)
 tbls:=fun c ps q=>by
  obtain ⟨m1,e1⟩:=a.tbls c ps q
  obtain ⟨m2,e2⟩:=b.tbls c _ e1
  exact ⟨m1 ++ m2,by rw [e2,Tab.assoc]⟩
theorem Un.kept (k:∀ b u,h.get? b=some u->h'.get? b=some u):Un fs ex H H h h' :=
 ⟨fun b ob q _ _ _=>k b ob q,fun b ob q _ _ _=>⟨ob.slots,k b ob q⟩,fun _ _ _ n _=>n,fun b ob q _=>⟨ob,k b ob q⟩,fun _ _ q=>q,fun _ _ _ q=>q,fun _ ps q=>⟨#[],by rw [q,Tab.nil]⟩⟩
theorem Un.refl:Un fs ex H H h h:=Un.kept fun _ _ q=>q
theorem Un.laid (k:∀ b u,h.get? b=some u->h'.get? b=some u) (hp:h.objs.size<=a) (hn:H a=none):Un fs ex H (upd H a o) h h' where
 keep:=fun b u q _ _ _=>k b u q
 slot:=fun b u q _ _ _=>⟨u.slots,k b u q⟩
 free:=fun b u q n _=>by rw [Vb (Nat.ne_of_lt (Nat.lt_of_lt_of_le (Heap.lt_size q) hp))]; exact n
 there:=fun b u q _=>⟨u,k b u q⟩
 tups:=fun b xs q=>by rw [Vb (Xc q hn)]; exact q
 frzs:=fun b u xs q=>by rw [Vb (Xc q hn)]; exact q
 tbls:=fun b ps q=>⟨#[],by rw [Vb (Xc q hn),q,Tab.nil]⟩
theorem Un.write (mu:Mut (H x)) (he:e=x∨H e=some (.own x)) (k:∀ b u,b≠e->h.get? b=some u->h'.get? b=some u) (heo:∃ u,h'.get? e=some u):Un fs ex H (upd H x o) h h':=by
 have hx:∀ b,H b=none->b≠x:=fun b n z=>by subst z; rw [n] at mu; exact mu
 have hb:∀ b,H b=none->b≠e:=fun b n z=>by
  subst z
  rcases he with r | r
  ·exact hx b n r
  ·rw [n] at r; cases r
 have hm:∀ b u,H b=some u->¬ Mut (some u)->b≠x:=fun b u q nm z=>by subst z; rw [q] at mu; exact nm mu
 refine ⟨fun b u q n _ _=>k b u (hb b n) q,fun b u q n _ _=>⟨u.slots,k b u (hb b n) q⟩,fun b u q n _=>by rw [Vb (hx b n)]; exact n,fun b u q _=>?_,
  fun b xs q=>by rw [Vb (hm b _ q fun z=>z)]; exact q,fun b u xs q=>by rw [Vb (hm b _ q fun z=>z)]; exact q,fun b ps q=>⟨#[],by rw [Vb (hm b _ q fun z=>z),q,Tab.nil]⟩⟩
 by_cases hbe:b=e
 ·subst hbe; exact heo
 ·exact ⟨u,k b u hbe q⟩
theorem Un.mono (u:Un fs ex H H1 h h1) (hs:∀ b∈fs,b∈fs') (hx:∀ b∈ex,b∈ex'):Un fs' ex' H H1 h h1 :=
 ⟨fun b ob q n hb he=>u.keep b ob q n (fun z=>hb (hs b z)) fun z=>he (hx b z),fun _ _ q n _ he=>u.any q n fun z=>he (hx _ z),fun b ob q n he=>u.free b ob q n fun z=>he (hx b z),fun b ob q he=>u.there b ob q fun z=>he (hx b z),u.tups,u.frzs,u.tbls⟩
end
noncomputable def trk (h:Heap) (H:Hp):List Addr:=(List.range h.objs.size).filter fun a=>(H a).isSome
noncomputable def hidT (h:Heap) (H:Hp):Heap:=PySem.W.hideAll h (trk h H)
theorem Wbq (h:Heap) (H:Hp):(hidT h H).objs.size=h.objs.size:=PySem.W.hideAll_size _ _
theorem hidT_get {h:Heap} {H:Hp} {b:Addr} {o:Obj} (e:h.get? b=some o) (n:H b=none):(hidT h H).get? b=some o :=
 PySem.W.hideAll_get _ e fun hm=>by
  have q:(H b).isSome=true:=(List.mem_filter.mp hm).2
  rw [n] at q; simp at q
theorem of_hidT {h:Heap} {H:Hp} {b:Addr} {o:Obj} (e:(hidT h H).get? b=some o):h.get? b=some o/\H b=none:=by
 have e':h.get? b=some o:=PySem.W.of_hideAll (trk h H) e
 refine ⟨e',?_⟩
 cases q:H b with
 | none=>rfl
 | some x =>
  have hm:b∈trk h H:=List.mem_filter.mpr ⟨List.mem_range.mpr (Heap.lt_size e'),by simp [q]⟩
  have z:(hidT h H).get? b=none:=PySem.W.hideAll_none (trk h H) hm
  rw [z] at e; cases e
noncomputable def allNews (g h:Heap) (L:Addr):List (Addr×Obj):=(List.range h.objs.size).filterMap fun a=>if a=L∨(g.get? a).isSome=true then none else (h.get? a).map fun o=>(a,o)
noncomputable def rest (g h:Heap) (L d:Addr):List (Addr×Obj):=(allNews g h L).filter fun p=>decide (p.1≠d)
end L2
namespace L2
open PySem PySem.Spec PyProof.Rows
noncomputable def HdS (A:Around) (h:Heap):Prop:=∀ v,A.handled=some v->∃ x o vs,v = .ref x/\h.get? x=some o/\o.data = .fields vs/\vs[2]? = some .none
section
variable {prog:Program} {w:World} {A:Around} {E:Value->Shared->Prop} {s:Shared}
theorem Xad:entryFor table "proto.unchain" = some Builtin.«proto.unchain»:=entryFor_of_tree (by kernel_rfl)
theorem Zb4 {α:Type} {a:Addr} {o:Obj} {vs:Array Value} {Q:α->Shared->Prop} (hh:HdS A s.heap) (ho:s.heap.get? a=some o) (hd:o.data = .fields vs) (hz:2 < vs.size)
  (hE:∀ h' o',h'.get? a=some o'->o'.cls=o.cls->Heap.SameBut a s.heap h'->E (.ref a) { s with heap:=h' }):wpAny (model prog w) A (raiseNew (.ref a)) Q E s:=by
 obtain ⟨oc,od,dt,sl⟩:=o
 cases hd
 unfold raiseNew
 refine wpAny_bind (wpAny_handled ?_)
 cases q:A.handled with
 | none=>exact wpAny_throw (hE s.heap _ ho rfl (Heap.SameBut.refl ..))
 | some v =>
  obtain ⟨x,ox,ws,rfl,hx,hxd,hx2⟩:=hh v q
  show wpAny _ _ (if (Value.ref x != Value.ref a)=true then _ else _) _ _ s
  by_cases e:(Value.ref x != Value.ref a)=true
  ·rw [if_pos e]
   refine wpAny_bind (wpAny_holding (wpAny_runValue (codeAny_builtin Xad ?_)))
   unfold Builtin.«proto.unchain»
   refine wpAny_bind (wpAny_field hx hxd hx2 ?_)
   refine wpAny_pure ?_
   show wpAny _ _ (updateField a 2 (.ref x) >>= _) _ _ s
   unfold updateField
   refine wpAny_bind (wpAny_bind (wpAny_load ho ?_))
   show wpAny _ _ (if 2 < vs.size then _ else _) _ _ s
   rw [if_pos hz]
   refine wpAny_update ho (wpAny_throw ?_)
   exact hE _ _ (Heap.get?_update_self _ ho rfl) rfl (Heap.SameBut.update ..)
  ·rw [if_neg e]
   exact wpAny_throw (hE s.heap _ ho rfl (Heap.SameBut.refl ..))
theorem Ybe {α:Type} {it:Addr} {Q:α->Shared->Prop} (hh:HdS A s.heap) (k:∀ h' a o,h'.get? a=some o->o.cls = .type "StopIteration"->Heap.ExtBut it s.heap h'->E (.ref a) { s with heap:=h' }) :
  wpAny (model prog w) A (do let e <- newExc (.type "StopIteration") []; raiseNew e) Q E s:=by
 refine wpAny_bind ?_
 simp only [newExc,newTuple]
 refine wpAny_bind (wpAny_newObj_type (wpAny_bind (m:=firstArgMember _ _) (wpAny_of_eq (a:=Value.none) (by first | rfl | (simp only [firstArgMember]; rfl)) (wpAny_newObj_type ?_ (by size_fits)))) (by size_fits))
 refine Zb4 (vs:=#[.ref s.heap.objs.size,.none,.none,.none,.bool false,.none] ++ ownMembersOf (.type "StopIteration") []) (fun v q=>?_) (Heap.get?_push_size _ rfl) rfl (by simp [ownMembersOf]) fun h' o' e1 e2 sb=>k _ _ _ e1 e2 fun b o hb e=>?_
 ·obtain ⟨x,o,vs,e,h1,h2,h3⟩:=hh v q
  exact ⟨x,o,vs,e,Heap.get?_push_of_some _ (Heap.get?_push_of_some _ h1),h2,h3⟩
 ·refine (sb.2 b ?_).trans (Heap.get?_push_of_some _ (Heap.get?_push_of_some _ e))
  have h2:(s.heap.push { cls:=.type "tuple",data:=.seq #[] }).objs.size=s.heap.objs.size + 1:=by simp [Heap.push]
  have h3:s.heap.objs.size<=(s.heap.push { cls:=.type "tuple",data:=.seq #[] }).objs.size:=by omega
  rintro rfl
  exact absurd (Nat.lt_of_lt_of_le (Heap.lt_size e) h3) (Nat.lt_irrefl _)
theorem Wa5 {it:Addr} {x left c:Int} {Q:Option Value->Shared->Prop} (hh:HdS A s.heap) (hI:IsRangeIter s.heap it x left c) (z:left<=0) (k:∀ h',Heap.ExtBut it s.heap h'->Q none { s with heap:=h' }):wpAny (model prog w) A (pyNext (.ref it)) Q E s:=by
 have ty:s.TypeIs (.ref it) "range_iterator":=⟨_,hI,rfl⟩
 unfold pyNext
 refine wpAny_bind (wpAny_attempt (wpAny_callSpecial?_slot (name:=Str.ofString "__next__") ty F.slot_range_iterator_next (wpAny_call_entry F.slot_range_iterator_next ty F.entry_range_iterator_next ?_ (F.args_range_iterator_next_1 _))))
 refine (show wpAny _ _ (do let a <- field (.ref it) 0; _) _ _ s from wpAny_bind (wpAny_field hI rfl (x:=rawInt x) rfl ?_))
 refine (show wpAny _ _ (do let a <- field (.ref it) 1; _) _ _ s from wpAny_bind (wpAny_field hI rfl (x:=rawInt left) rfl ?_))
 refine (show wpAny _ _ (do let a <- field (.ref it) 2; _) _ _ s from wpAny_bind (wpAny_field hI rfl (x:=rawInt c) rfl ?_))
 show wpAny _ _ (ite (left<=0) _ _) _ _ s
 rw [if_pos z]
 refine wpAny_bind (wpAny_rule (wpAny_bind (Ybe (it:=it) hh fun h' a o e1 e2 eb=>?_)))
 exact wpAny_bind (wpAny_isInstance (T:="StopIteration") (b:=true) ⟨_,e1,e2⟩ isSubtype_stop (wpAny_pure (k _ eb)))
end
end L2
namespace L2
open PySem PySem.Spec PyProof.Rows
structure Mod (K:PySem.W.Frag) (mg:Str->Option Value) (base:Heap):Prop where
 kin:K.In base
 glob:base.Ns mainGlobals mg
 blt:∃ mb,base.Ns builtinsNs mb/\∀ x:Str,x≠"__name__"->mb x=bootBuiltins x
 nolimit:base.NoLimit
 sysm:∃ mm,base.Ns sysModules mm
noncomputable def HdOk (A:Around) (H:Hp):Prop:=∀ v,A.handled=some v->∃ x o u vs,v = .ref x/\H x=some (.frz o u)/\o.data = .fields vs/\vs[2]? = some .none
theorem HdOk.mono {A:Around} {H H':Hp} (x:HdOk A H) (f:∀ b o u,H b=some (.frz o u)->H' b=some (.frz o u)):HdOk A H':=fun v q =>
 let ⟨x,o,u,vs,e,h,r⟩:=x v q; ⟨x,o,u,vs,e,f _ _ _ h,r⟩
theorem HdOk.hds {P:Program} {w:World} {A:Around} {H:Hp} {h:Heap} (x:HdOk A H) (k:HOk P w H h):HdS A h:=fun v q =>
 let ⟨x,o,u,vs,e,y,r⟩:=x v q; ⟨x,o,vs,e,(show ObjOk P w H h x (.frz o u) from k _ _ y).1,r⟩
structure Cx where
 prog:Program
 w:World
 K:PySem.W.Frag
 mg:Str->Option Value
 base:Heap
 A:Around
 N:List Str
 s₀:Shared
 H₀:Hp
 env:Env
 outer:List Env
 stack:List Env
 ex:List Addr
 fn:Str->Bool
 calm:Bool
 pn:List (Addr×Obj)
 xe:Value->Shared->Prop
noncomputable def frs (l:List Env):List Addr:=l.filterMap (·.frame)
noncomputable abbrev Cx.fs (X:Cx):List Addr:=frs X.outer
noncomputable def Vis (sc:Scope) (x:Str):Prop:=sc.names.lookup x=some .local∨sc.names.lookup x=some .cell∨sc.names.lookup x=some .free
noncomputable def Loc (sc:Scope) (x:Str):Prop:=sc.names.lookup x=some .local∨sc.names.lookup x=some .cell
noncomputable def Look (env:Env) (h:Heap) (m:Str->Option Value) (x:Str) (u:Value):Prop :=
 (env.kindOf x=some .local/\m x=some u)∨((env.kindOf x=some .cell∨env.kindOf x=some .free)/\∃ c,env.cells.lookup x=some c/\h.IsCell c (some u))
structure Cx.Ok (X:Cx):Prop where
 mod:Mod X.K X.mg X.base
 kind:X.env.scope.kind = .function
 glob:X.env.globals=mainGlobals
 blt:X.env.builtins=builtinsNs
 above:X.s₀.heap.objs.size<=X.env.locals
 inj:∀ x y c,X.env.cells.lookup x=some c->X.env.cells.lookup y=some c->x=y
 has:∀ x,(X.env.kindOf x=some .cell∨X.env.kindOf x=some .free)->∃ c,X.env.cells.lookup x=some c
 cab:∀ x c,X.fn x=true->X.env.cells.lookup x=some c->X.s₀.heap.objs.size<=c
 hd:X.calm=true->X.A.handled=none
 frames:X.A.frames=some X.stack
 stk:X.stack=X.outer∨(X.stack=X.env :: X.outer/\X.env.frame=some X.env.locals)
 exf:∀ b∈X.ex,b≠X.env.locals/\∀ x c,X.env.cells.lookup x=some c->c≠b
 bs:∀ b o,X.base.get? b=some o->X.s₀.heap.get? b=some o/\X.H₀ b=none
 bsz:X.base.objs.size<=X.s₀.heap.objs.size
 noex:∀ b o,X.base.get? b=some o->b ∉ X.ex
 exfs:∀ b∈X.ex,b ∉ X.fs
 funs:X.s₀.heap.FunFrames X.base X.outer
 frf:∀ b∈X.fs,X.H₀ b=none
structure Inv (X:Cx) (pins:List (Addr×Obj)) (σ:List (Option V)) (H:Hp) (s:Shared):Prop where
 ok:X.Ok
 os:s.os=X.s₀.os
 bare:AllBare s.gens
 base:Un X.fs X.ex X.H₀ H X.s₀.heap s.heap
 loc:∃ m,s.heap.Ns X.env.locals m/\∀ (i:Nat) (x:Str) (v:V),X.N[i]? = some x->σ[i]? = some (some v)->Vis X.env.scope x->∃ u,RelV v u/\Look X.env s.heap m x u
 cell:∀ x c,X.env.cells.lookup x=some c->∃ v,s.heap.IsCell c v
 free:H X.env.locals=none
 freeC:∀ x c,X.env.cells.lookup x=some c->H c=none
 pin:∀ p∈X.pn ++ pins,s.heap.get? p.1=some p.2/\H p.1=none/\p.1≠X.env.locals/\p.1 ∉ X.fs/\∀ v,p.2.data≠.cell v
 hok:HOk X.prog X.w H s.heap
 len:σ.length=X.N.length
 hh:HdOk X.A H
section
variable {X:Cx} {pins:List (Addr×Obj)} {σ:List (Option V)} {H H':Hp} {s:Shared} {h':Heap}
theorem Cx.Ok.nofr (ok:X.Ok) {b:Addr} {o:Obj} (e:X.base.get? b=some o):b ∉ X.fs:=fun hb=>by
 have:=(ok.funs.mem hb).1
 rw [e] at this; cases this
theorem Inv.bs (I:Inv X pins σ H s):∀ b o,X.base.get? b=some o->s.heap.get? b=some o/\H b=none:=fun b o e =>
 ⟨I.base.keep b o (I.ok.bs b o e).1 (I.ok.bs b o e).2 (I.ok.nofr e) (I.ok.noex b o e),I.base.free b o (I.ok.bs b o e).1 (I.ok.bs b o e).2 (I.ok.noex b o e)⟩
theorem Inv.bk (I:Inv X pins σ H s):∀ b o,X.base.get? b=some o->s.heap.get? b=some o:=fun b o e=>(I.bs b o e).1
theorem Inv.mod (I:Inv X pins σ H s):Mod X.K X.mg X.base:=I.ok.mod
theorem Inv.kIn (I:Inv X pins σ H s):X.K.In s.heap:=I.ok.mod.kin.keeps I.bk
theorem Inv.nolimit (I:Inv X pins σ H s):s.heap.NoLimit:=I.ok.mod.nolimit.keeps I.bk
theorem Inv.fr (I:Inv X pins σ H s):∃ m,Fr X.base X.env.locals s.heap m :=
 let ⟨m,hn,_⟩:=I.loc
 ⟨m,hn,I.bk,Nat.le_trans I.ok.bsz I.ok.above⟩
theorem Inv.lt (I:Inv X pins σ H s):X.env.locals < s.heap.objs.size:=let ⟨_,hn,_⟩:=I.loc; hn.lt
theorem Inv.sz (I:Inv X pins σ H s):X.s₀.heap.objs.size<=s.heap.objs.size:=Nat.le_trans I.ok.above (Nat.le_of_lt I.lt)
theorem Inv.nofs (I:Inv X pins σ H s) {a:Addr} (h:s.heap.objs.size<=a):a ∉ X.fs:=fun hb=>by
 obtain ⟨_,o,ho,_⟩:=I.ok.funs.mem hb
 exact absurd (Nat.lt_of_lt_of_le (Heap.lt_size ho) (Nat.le_trans I.sz h)) (Nat.lt_irrefl _)
theorem Inv.cne (I:Inv X pins σ H s):∀ x c,X.env.cells.lookup x=some c->c≠X.env.locals:=fun x c e z=>by
 obtain ⟨v,o,ho,hd⟩:=I.cell x c e
 obtain ⟨m,⟨o',es,ep,ho',hd',_⟩,_⟩:=I.loc
 rw [z,ho'] at ho; cases ho; rw [hd'] at hd; cases hd
theorem Inv.funs (I:Inv X pins σ H s):s.heap.FunFrames X.base X.outer:=by
 have all:∀ (l:List Env),(∀ b∈frs l,b∈X.fs)->X.s₀.heap.FunFrames X.base l->s.heap.FunFrames X.base l:=by
  intro l
  induction l with
  | nil=>intro _ _; trivial
  | cons env r ih =>
   intro hs hl
   obtain ⟨hk,⟨L,o,hf,hn,ho,hd⟩,hr⟩:=hl
   have hL:L∈X.fs:=hs L (by unfold frs; rw [List.filterMap_cons,hf]; exact List.mem_cons_self)
   obtain ⟨sl,e⟩:=I.base.slot L o ho (I.ok.frf L hL) hL fun z=>I.ok.exfs L z hL
   exact ⟨hk,⟨L,_,hf,hn,e,hd⟩,ih (fun b hb=>hs b (by unfold frs; rw [List.filterMap_cons,hf]; exact List.mem_cons_of_mem _ hb)) hr⟩
 exact all X.outer (fun _ hb=>hb) I.ok.funs
theorem Inv.stack (I:Inv X pins σ H s):s.heap.FunFrames X.base X.stack:=by
 rcases I.ok.stk with e | ⟨e,hf⟩
 ·rw [e]; exact I.funs
 ·rw [e]
  obtain ⟨m,hn,_⟩:=I.loc
  refine .cons (by rw [I.ok.kind]; decide) hf hn ?_ I.funs
  exact Heap.get?_none_of_le (Nat.le_trans I.ok.bsz I.ok.above)
theorem Inv.stkSub (I:Inv X pins σ H s):∀ b∈frs X.stack,b∈X.env.locals :: X.fs:=fun b hb=>by
 rcases I.ok.stk with e | ⟨e,hf⟩
 ·rw [e] at hb; exact List.mem_cons_of_mem _ hb
 ·rw [e] at hb
  unfold frs at hb
  rw [List.filterMap_cons,hf] at hb
  exact hb
theorem Inv.stkFree (I:Inv X pins σ H s):∀ b∈frs X.stack,H b=none:=fun b hb=>by
 rcases List.mem_cons.mp (I.stkSub b hb) with e | hb
 ·rw [e]; exact I.free
 ·obtain ⟨_,o,ho,_⟩:=I.ok.funs.mem hb
  exact I.base.free b o ho (I.ok.frf b hb) fun z=>I.ok.exfs b z hb
theorem Inv.step {g':Array GenState} {t':Nat} {d':Drawn} {ch:List Addr} (I:Inv X pins σ H s)
  (hch:∀ b∈ch,(b∈X.ex∨X.s₀.heap.objs.size<=b)/\b≠X.env.locals/\(∀ x c,X.env.cells.lookup x=some c->c≠b)/\∀ p∈X.pn ++ pins,p.1≠b)
  (keep:∀ b o,b≠X.env.locals->b ∉ X.fs->b ∉ ch->s.heap.get? b=some o->H b=none->h'.get? b=some o)
  (slot:∀ b o,b≠X.env.locals->b∈X.fs->b ∉ ch->s.heap.get? b=some o->H b=none->∃ sl,h'.get? b=some { o with slots:=sl }) (free:∀ b o,b ∉ ch->s.heap.get? b=some o->H b=none->H' b=none)
  (there:∀ b o,b ∉ ch->s.heap.get? b=some o->∃ o',h'.get? b=some o')
  (tups:∀ b xs,H b=some (.tup xs)->H' b=some (.tup xs)) (frzs:∀ b o u,H b=some (.frz o u)->H' b=some (.frz o u)) (tbls:∀ b ps,H b=some (.tbl ps)->∃ more:Array Value,H' b=some (.tbl (ps ++ more)))
  (ns:∀ m,s.heap.Ns X.env.locals m->h'.Ns X.env.locals m) (hok:HOk X.prog X.w H' h') (hg:AllBare g') :
  Inv X pins σ H' { s with heap:=h',gens:=g',drawn:=d',toks:=t' }:=by
 have neL:∀ b o,X.s₀.heap.get? b=some o->b≠X.env.locals:=fun b o e=>Nat.ne_of_lt (Nat.lt_of_lt_of_le (Heap.lt_size e) I.ok.above)
 have neC:∀ b o,X.s₀.heap.get? b=some o->b ∉ X.ex->b ∉ ch:=fun b o e hx hb=>by
  rcases (hch b hb).1 with z | z
  ·exact hx z
  ·exact absurd (Nat.lt_of_lt_of_le (Heap.lt_size e) z) (Nat.lt_irrefl _)
 have cellK:∀ x c,X.env.cells.lookup x=some c->∀ v,s.heap.IsCell c v->h'.IsCell c v:=fun x c e v ⟨o,ho,hd⟩=>by
  have nch:c ∉ ch:=fun z=>(hch c z).2.2.1 x c e rfl
  by_cases hc:c∈X.fs
  ·obtain ⟨sl,q⟩:=slot c o (I.cne x c e) hc nch ho (I.freeC x c e)
   exact ⟨_,q,hd⟩
  ·exact ⟨o,keep c o (I.cne x c e) hc nch ho (I.freeC x c e),hd⟩
 refine ⟨I.ok,I.os,hg,⟨fun b o e n hb hx=>?_,fun b o e n hb hx=>?_,fun b o e n hx=>?_,fun b o e hx=>?_,fun b xs e=>tups b xs (I.base.tups b xs e),fun b o xs e=>frzs b o xs (I.base.frzs b o xs e),fun b ps e=>?_⟩,?_,fun x c e=>?_,?_,fun x c e=>?_,fun p hp=>?_,hok,I.len,I.hh.mono frzs⟩
 ·exact keep b o (neL b o e) hb (neC b o e hx) (I.base.keep b o e n hb hx) (I.base.free b o e n hx)
 ·obtain ⟨sl,e1⟩:=I.base.slot b o e n hb hx
  obtain ⟨sl',e2⟩:=slot b _ (neL b o e) hb (neC b o e hx) e1 (I.base.free b o e n hx)
  exact ⟨sl',e2⟩
 ·obtain ⟨o',e1⟩:=I.base.there b o e hx
  exact free b o' (neC b o e hx) e1 (I.base.free b o e n hx)
 ·obtain ⟨o',e1⟩:=I.base.there b o e hx
  exact there b o' (neC b o e hx) e1
 ·obtain ⟨m1,e1⟩:=I.base.tbls b ps e
  obtain ⟨m2,e2⟩:=tbls b _ e1
  exact ⟨m1 ++ m2,by rw [e2,Tab.assoc]⟩
 ·obtain ⟨m,hn,hl⟩:=I.loc
  refine ⟨m,ns m hn,fun i x v e1 e2 e3=>?_⟩
  obtain ⟨u,r,l⟩:=hl i x v e1 e2 e3
  refine ⟨u,r,?_⟩
  rcases l with l | ⟨k,c,e,z⟩
  ·exact .inl l
  ·exact .inr ⟨k,c,e,cellK x c e _ z⟩
 ·obtain ⟨v,z⟩:=I.cell x c e
  exact ⟨v,cellK x c e v z⟩
 ·obtain ⟨m,⟨o,_,_,ho,_⟩,_⟩:=I.loc
  exact free _ o (fun z=>(hch _ z).2.1 rfl) ho I.free
 ·obtain ⟨v,o,ho,hd⟩:=I.cell x c e
  exact free c o (fun z=>(hch c z).2.2.1 x c e rfl) ho (I.freeC x c e)
 ·obtain ⟨e,n,ne,nf,d⟩:=I.pin p hp
  have nch:p.1 ∉ ch:=fun z=>(hch p.1 z).2.2.2 p hp rfl
  exact ⟨keep p.1 p.2 ne nf nch e n,free p.1 p.2 nch e n,ne,nf,d⟩
theorem Inv.un {t':Nat} (I:Inv X pins σ H s) (u:Un X.fs [] H H' s.heap h') (hok:HOk X.prog X.w H' h'):Inv X pins σ H' { s with heap:=h',toks:=t' }:=by
 obtain ⟨m,⟨o,es,ep,ho,r⟩,_⟩:=id I.loc
 obtain ⟨sl,hL⟩:=u.any ho I.free (by simp)
 exact I.step (g':=s.gens) (d':=s.drawn) (ch:=[]) (fun _ z=>nomatch z) (fun b o _ hb _ e n=>u.keep b o e n hb (by simp)) (fun b o _ hb _ e n=>u.slot b o e n hb (by simp)) (fun b o _ e n=>u.free b o e n (by simp)) (fun b o _ e=>u.there b o e (by simp)) u.tups u.frzs u.tbls (fun m' hm=>by
  obtain ⟨o',es',ep',ho',r'⟩:=hm
  rw [ho] at ho'; cases ho'
  exact ⟨_,es',ep',hL,r'⟩) hok I.bare
theorem Inv.call {g':Array GenState} {t':Nat} {d':Drawn} {ch:List Addr} (I:Inv X pins σ H s) (u:Un (frs X.stack) ch H H' s.heap h') (hok:HOk X.prog X.w H' h') (hg:AllBare g')
  (hch:∀ b∈ch,(b∈X.ex∨X.s₀.heap.objs.size<=b)/\b≠X.env.locals/\(∀ x c,X.env.cells.lookup x=some c->c≠b)/\∀ p∈X.pn ++ pins,p.1≠b) :
  Inv X pins σ H' { s with heap:=h',gens:=g',drawn:=d',toks:=t' }:=by
 obtain ⟨m,⟨o,es,ep,ho,r⟩,_⟩:=id I.loc
 obtain ⟨sl,hL⟩:=u.any ho I.free fun z=>(hch _ z).2.1 rfl
 exact I.step (ch:=ch) hch (fun b o hL hb hc e n=>u.keep b o e n (fun z=>(List.mem_cons.mp (I.stkSub b z)).elim hL hb) hc) (fun b o _ _ hc e n=>u.any e n hc) (fun b o hc e n=>u.free b o e n hc) (fun b o hc e=>u.there b o e hc) u.tups u.frzs u.tbls (fun m' hm=>by
  obtain ⟨o',es',ep',ho',r'⟩:=hm
  rw [ho] at ho'; cases ho'
  exact ⟨_,es',ep',hL,r'⟩) hok hg
theorem Inv.turned {t':Nat} {it:Addr} (I:Inv X pins σ H s) (k:∀ b o,b≠it->s.heap.get? b=some o->h'.get? b=some o) (hn:H it=none) (hL:it≠X.env.locals)
  (h1:it∈X.ex∨X.s₀.heap.objs.size<=it) (h2:∀ x c,X.env.cells.lookup x=some c->c≠it) (h3:∀ p∈X.pn ++ pins,p.1≠it):Inv X pins σ H { s with heap:=h',toks:=t' }:=by
 have nit:∀ b u,H b=some u->b≠it:=fun b u e z=>by rw [z,hn] at e; cases e
 refine I.step (g':=s.gens) (d':=s.drawn) (ch:=[it]) (fun b hb=>?_) (fun b o _ _ hc e _=>k b o (fun z=>hc (by simp [z])) e) (fun b o _ _ hc e _=>⟨o.slots,k b o (fun z=>hc (by simp [z])) e⟩) (fun _ _ _ _ n=>n)
  (fun b o hc e=>⟨o,k b o (fun z=>hc (by simp [z])) e⟩) (fun _ _ e=>e) (fun _ _ _ e=>e) (fun b ps e=>⟨#[],by rw [e,Tab.nil]⟩) (fun m hm=>?_) (fun b u e=>?_) I.bare
 ·have e:b=it:=by simpa using hb
  subst e
  exact ⟨h1,hL,h2,h3⟩
 ·obtain ⟨o,es,ep,ho,r⟩:=hm
  exact ⟨o,es,ep,k _ o (Ne.symm hL) ho,r⟩
 ·refine (I.hok b u e).stay (fun c v hc q=>k c v ?_ q) (fun _ q=>q) fun _ _ q=>q
  rcases hc with z | z
  ·rw [z]; exact nit b u e
  ·exact nit c _ z
theorem Inv.tok (I:Inv X pins σ H s) (t:Nat):Inv X pins σ H { s with toks:=t }:=I.un (h':=s.heap) (t':=t) Un.refl I.hok
theorem Inv.kept {t':Nat} (I:Inv X pins σ H s) (k:∀ b u,s.heap.get? b=some u->h'.get? b=some u):Inv X pins σ H { s with heap:=h',toks:=t' }:=I.un (Un.kept k) (I.hok.kept k)
theorem Inv.laid {a:Addr} {o:HO} {t':Nat} (I:Inv X pins σ H s) (k:∀ b u,s.heap.get? b=some u->h'.get? b=some u) (hp:s.heap.objs.size<=a) (new:ObjOk X.prog X.w (upd H a o) h' a o) :
  Inv X pins σ (upd H a o) { s with heap:=h',toks:=t' }:=I.un (Un.laid k hp (I.hok.fresh hp)) (I.hok.laid k hp new)
theorem Inv.write {x e:Addr} {o:HO} {t':Nat} (I:Inv X pins σ H s) (mu:Mut (H x)) (he:e=x∨H e=some (.own x)) (k:∀ b u,b≠e->s.heap.get? b=some u->h'.get? b=some u) (heo:∃ u,h'.get? e=some u)
  (new:ObjOk X.prog X.w (upd H x o) h' x o):Inv X pins σ (upd H x o) { s with heap:=h',toks:=t' }:=I.un (Un.write mu he k heo) (I.hok.write mu he k heo new)
theorem Inv.pins_of {pins':List (Addr×Obj)} (I:Inv X pins σ H s) (h:∀ p∈pins',s.heap.get? p.1=some p.2/\H p.1=none/\p.1≠X.env.locals/\p.1 ∉ X.fs/\∀ v,p.2.data≠.cell v):Inv X pins' σ H s :=
 ⟨I.ok,I.os,I.bare,I.base,I.loc,I.cell,I.free,I.freeC,fun p hp=>(List.mem_append.mp hp).elim (fun z=>I.pin p (List.mem_append_left _ z)) (h p),I.hok,I.len,I.hh⟩
theorem Vax {N:List Str} (hN:N.Nodup) {i j:Nat} {x:Str} (a:N[i]? = some x) (b:N[j]? = some x):i=j:=by
 obtain ⟨h1,e1⟩:=List.getElem?_eq_some_iff.mp a
 obtain ⟨h2,e2⟩:=List.getElem?_eq_some_iff.mp b
 exact (List.getElem_inj hN).mp (e1.trans e2.symm)
theorem Zag {M:Model} {A:Around} {E:Value->Shared->Prop} {i:Nat} {x:Str} {v:V} {u:Value} {Q:Unit->Shared->Prop} (I:Inv X pins σ H s) (hN:X.N.Nodup) (hi:X.N[i]? = some x) (hx:Loc X.env.scope x) (r:RelV v u)
  (h:∀ s',Inv X pins (σ.set i (some v)) H s'->(∃ a,Heap.SameBut a s.heap s'.heap/\(a=X.env.locals∨X.env.cells.lookup x=some a))->Q () s') (hf:X.fn x=true∨X.env.scope.names.lookup x=some .local:=by first | exact .inl rfl | exact .inr rfl | assumption):wpAny M A (storeName X.env x u) Q E s:=by
 obtain ⟨m,hn,hl⟩:=id I.loc
 have hcls:(X.env.scope.kind == .class || (X.env.scope.kind == .module && X.env.locals != X.env.globals))=false:=by rw [I.ok.kind]; rfl
 have hiσ:i < σ.length:=by rw [I.len]; exact (List.getElem?_eq_some_iff.mp hi).1
 have cne:=I.cne
 have tracked:∀ {a:Addr} {h':Heap},(∃ o,s.heap.get? a=some o/\H a=none)->Heap.SameBut a s.heap h'->HOk X.prog X.w H h':=fun {a h'} ha hs b ob e=>by
  obtain ⟨_,_,hfree⟩:=ha
  refine (I.hok b ob e).stay (fun c w' hc q=>(hs.2 c ?_).trans q) (fun _ q=>q) fun _ _ q=>q
  rintro rfl
  rcases hc with rfl | hc
  ·rw [hfree] at e; cases e
  ·rw [hfree] at hc; cases hc
 rcases hx with hk | hk
 ·refine wpAny_storeName_local hk hn (fun h' hn' hs=>?_) hcls
  obtain ⟨oL,_,_,hoL,_⟩:=id hn
  refine h _ ⟨I.ok,I.os,I.bare,⟨fun b o e n hb hx=>?_,fun b o e n hb hx=>?_,I.base.free,fun b o e hx=>?_,I.base.tups,I.base.frzs,I.base.tbls⟩,⟨_,hn',fun j y v' e1 e2 e3=>?_⟩,fun y c e=>?_,I.free,I.freeC,fun p hp=>?_,tracked ⟨oL,hoL,I.free⟩ hs,by simpa using I.len,I.hh⟩ ⟨_,hs,.inl rfl⟩
  ·exact (hs.2 b (Nat.ne_of_lt (Nat.lt_of_lt_of_le (Heap.lt_size e) I.ok.above))).trans (I.base.keep b o e n hb hx)
  ·obtain ⟨sl,e1⟩:=I.base.slot b o e n hb hx
   exact ⟨sl,(hs.2 b (Nat.ne_of_lt (Nat.lt_of_lt_of_le (Heap.lt_size e) I.ok.above))).trans e1⟩
  ·obtain ⟨o',e1⟩:=I.base.there b o e hx
   exact ⟨o',(hs.2 b (Nat.ne_of_lt (Nat.lt_of_lt_of_le (Heap.lt_size e) I.ok.above))).trans e1⟩
  ·by_cases hj:j=i
   ·subst hj
    rw [hi] at e1; cases e1
    rw [List.getElem?_set_self hiσ] at e2
    cases e2
    exact ⟨u,r,.inl ⟨hk,by simp⟩⟩
   ·rw [List.getElem?_set_ne (Ne.symm hj)] at e2
    obtain ⟨u',r',q⟩:=hl j y v' e1 e2 e3
    refine ⟨u',r',?_⟩
    rcases q with ⟨k,e⟩ | ⟨k,c,e,z⟩
    ·refine .inl ⟨k,?_⟩
     have:y≠x:=fun e=>hj (Vax hN e1 (e ▸ hi))
     simp [this,e]
    ·exact .inr ⟨k,c,e,z.sameBut hs (cne y c e)⟩
  ·obtain ⟨w',z⟩:=I.cell y c e
   exact ⟨w',z.sameBut hs (cne y c e)⟩
  ·obtain ⟨e,n,ne,nf,d⟩:=I.pin p hp
   exact ⟨(hs.2 p.1 ne).trans e,n,ne,nf,d⟩
 ·have hfn:X.fn x=true:=by
   rcases hf with z | z
   ·exact z
   ·rw [z] at hk; cases hk
  obtain ⟨c,hc⟩:=I.ok.has x (.inl hk)
  obtain ⟨w',z⟩:=I.cell x c hc
  refine wpAny_storeName_cell I.ok.kind hk hc z (fun h' hc' hs=>?_)
  obtain ⟨oc,hoc,hocd⟩:=id z
  refine h { s with heap:=h' } ⟨I.ok,I.os,I.bare,⟨fun b o e n hb hx=>?_,fun b o e n hb hx=>?_,I.base.free,fun b o e hx=>?_,I.base.tups,I.base.frzs,I.base.tbls⟩,⟨m,hn.sameBut hs (Ne.symm (cne x c hc)),fun j y v' e1 e2 e3=>?_⟩,fun y c' e=>?_,I.free,I.freeC,fun p hp=>?_,tracked ⟨oc,hoc,I.freeC x c hc⟩ hs,by simpa using I.len,I.hh⟩ ⟨c,hs,.inr hc⟩
  ·exact (hs.2 b (Nat.ne_of_lt (Nat.lt_of_lt_of_le (Heap.lt_size e) (I.ok.cab x c hfn hc)))).trans (I.base.keep b o e n hb hx)
  ·obtain ⟨sl,e1⟩:=I.base.slot b o e n hb hx
   exact ⟨sl,(hs.2 b (Nat.ne_of_lt (Nat.lt_of_lt_of_le (Heap.lt_size e) (I.ok.cab x c hfn hc)))).trans e1⟩
  ·obtain ⟨o',e1⟩:=I.base.there b o e hx
   exact ⟨o',(hs.2 b (Nat.ne_of_lt (Nat.lt_of_lt_of_le (Heap.lt_size e) (I.ok.cab x c hfn hc)))).trans e1⟩
  ·by_cases hj:j=i
   ·subst hj
    rw [hi] at e1; cases e1
    rw [List.getElem?_set_self hiσ] at e2
    cases e2
    exact ⟨u,r,.inr ⟨.inl hk,c,hc,hc'⟩⟩
   ·rw [List.getElem?_set_ne (Ne.symm hj)] at e2
    obtain ⟨u',r',q⟩:=hl j y v' e1 e2 e3
    refine ⟨u',r',?_⟩
    rcases q with q | ⟨k,c',e,z'⟩
    ·exact .inl q
    ·refine .inr ⟨k,c',e,z'.sameBut hs ?_⟩
     rintro rfl
     exact hj (Vax hN e1 (I.ok.inj _ _ _ e hc ▸ hi))
  ·by_cases hcc:c'=c
   ·subst hcc; exact ⟨_,hc'⟩
   ·obtain ⟨w2,z2⟩:=I.cell y c' e
    exact ⟨w2,z2.sameBut hs hcc⟩
  ·obtain ⟨e,n,ne,nf,d⟩:=I.pin p hp
   refine ⟨(hs.2 p.1 ?_).trans e,n,ne,nf,d⟩
   intro q
   rw [q,hoc] at e
   have q':oc=p.2:=Option.some.inj e
   exact d w' (by rw [<- q']; exact hocd)
theorem Xab {M:Model} {A:Around} {E:Value->Shared->Prop} {i:Nat} {x:Str} {v:V} {u:Value} {Q:Unit->Shared->Prop} (I:Inv X pins σ H s) (hN:X.N.Nodup) (hi:X.N[i]? = some x) (hx:Loc X.env.scope x) (r:RelV v u)
  (h:∀ s',Inv X pins (σ.set i (some v)) H s'->Q () s') (hf:X.fn x=true∨X.env.scope.names.lookup x=some .local:=by first | exact .inl rfl | exact .inr rfl | assumption):wpAny M A (storeName X.env x u) Q E s :=
 Zag I hN hi hx r (fun s' I' _=>h s' I') hf
theorem Inv.call' {s':Shared} {ch:List Addr} (I:Inv X pins σ H s) (ho:s'.os=s.os) (u:Un (frs X.stack) ch H H' s.heap s'.heap) (hok:HOk X.prog X.w H' s'.heap) (hg:AllBare s'.gens)
  (hch:∀ b∈ch,(b∈X.ex∨X.s₀.heap.objs.size<=b)/\b≠X.env.locals/\(∀ x c,X.env.cells.lookup x=some c->c≠b)/\∀ p∈X.pn ++ pins,p.1≠b):Inv X pins σ H' s':=by
 obtain ⟨h',g',d',t',o'⟩:=s'
 have e:o'=s.os:=ho
 subst e
 exact I.call (g':=g') (t':=t') (d':=d') u hok hg hch
end
noncomputable abbrev XK:=Value->Option Addr->Hp->Prop
noncomputable abbrev St:=List (Option V)
noncomputable abbrev VK:=V->Hp->Prop
noncomputable abbrev TE:=St->Hp->VK->Prop
noncomputable abbrev TT:=St->Hp->(Bool->Hp->Prop)->Prop
noncomputable abbrev TA:=St->Hp->(List V->Hp->Prop)->Prop
structure Ends where
 nx:St->Hp->Prop
 rt:VK
 bk:St->Hp->Prop:=fun _ _=>False
 ct:St->Hp->Prop:=fun _ _=>False
noncomputable abbrev TS:=Ends->St->Hp->Prop
noncomputable def EP (X:Cx) (pins:List (Addr×Obj)) (σ:St) (Q:VK) (u:Value) (s':Shared):Prop:=∃ v H',Inv X pins σ H' s'/\RelV v u/\Q v H'
noncomputable def TP (X:Cx) (pins:List (Addr×Obj)) (σ:St) (Q:Bool->Hp->Prop) (b:Bool) (s':Shared):Prop:=∃ H',Inv X pins σ H' s'/\Q b H'
noncomputable def AP (X:Cx) (pins:List (Addr×Obj)) (σ:St) (Q:List V->Hp->Prop) (us:List Value) (s':Shared):Prop:=∃ vs H',Inv X pins σ H' s'/\Vals vs us/\Q vs H'
noncomputable def SP (X:Cx) (pins:List (Addr×Obj)) (D:Ends) (f:Flow) (s':Shared):Prop :=
 match f with
 | .next=>∃ σ' H',Inv X pins σ' H' s'/\D.nx σ' H'
 | .brk=>∃ σ' H',Inv X pins σ' H' s'/\D.bk σ' H'
 | .cont=>∃ σ' H',Inv X pins σ' H' s'/\D.ct σ' H'
 | .ret u=>∃ v σ' H',Inv X pins σ' H' s'/\RelV v u/\D.rt v H'
noncomputable def PE (X:Cx) (e:Expr) (t:TE):Prop :=
 ∀ (pins:List (Addr×Obj)) (s:Shared) (σ:St) (H:Hp) (Q:VK),Inv X pins σ H s->t σ H Q->wpAny (model X.prog X.w) X.A (eval e X.env) (EP X pins σ Q) X.xe s
noncomputable def PT (X:Cx) (e:Expr) (t:TT):Prop :=
 ∀ (pins:List (Addr×Obj)) (s:Shared) (σ:St) (H:Hp) (Q:Bool->Hp->Prop),Inv X pins σ H s->t σ H Q->wpAny (model X.prog X.w) X.A (isTrue e X.env (eval e X.env)) (TP X pins σ Q) X.xe s
noncomputable def PW (X:Cx) (e:Expr) (t:TT):Prop :=
 ∀ (whole:Sem Value) (pins:List (Addr×Obj)) (s:Shared) (σ:St) (H:Hp) (Q:Bool->Hp->Prop),Inv X pins σ H s->t σ H Q->wpAny (model X.prog X.w) X.A (isTrue e X.env whole) (TP X pins σ Q) X.xe s
theorem PW.pt {X:Cx} {e:Expr} {t:TT} (h:PW X e t):PT X e t:=h _
noncomputable def PA (X:Cx) (es:List Expr) (t:TA):Prop :=
 ∀ (pos:Pos) (pins:List (Addr×Obj)) (s:Shared) (σ:St) (H:Hp) (Q:List V->Hp->Prop),Inv X pins σ H s->t σ H Q->wpAny (model X.prog X.w) X.A (spliced (backTo pos (starEach es X.env))) (AP X pins σ Q) X.xe s
noncomputable def PS (X:Cx) (st:Stmt) (t:TS):Prop :=
 ∀ (pins:List (Addr×Obj)) (s:Shared) (σ:St) (H:Hp) (D:Ends),Inv X pins σ H s->t D σ H->wpAny (model X.prog X.w) X.A (exec st X.env) (SP X pins D) X.xe s
noncomputable def PSs (X:Cx) (st:List Stmt) (t:TS):Prop :=
 ∀ (pins:List (Addr×Obj)) (s:Shared) (σ:St) (H:Hp) (D:Ends),Inv X pins σ H s->t D σ H->wpAny (model X.prog X.w) X.A (execs st X.env) (SP X pins D) X.xe s
theorem thn {α:Type} {t:Sem α} {Q Q':α->Shared->Prop} {M:Model} {A:Around} {E:Value->Shared->Prop} {s:Shared} (h:wpAny M A t Q E s) (hQ:∀ a s,Q a s->Q' a s):wpAny M A t Q' E s:=wpAny_mono h hQ fun _ _ x=>x
end L2
namespace L2
open PySem PySem.Spec PyProof.Rows
section
variable {X:Cx}
theorem bin {a b:Expr} {ta tb:TE} (ha:PE X a ta) (hb:PE X b tb) {pins:List (Addr×Obj)} {s:Shared} {σ:St} {H:Hp} {R:V->V->Hp->Prop} (I:Inv X pins σ H s) (h:ta σ H fun x H1=>tb σ H1 fun y H2=>R x y H2)
  {α:Type} {Q:α->Shared->Prop} {f:Value->Value->Sem α}
  (hf:∀ v u s2 x y H2,Inv X pins σ H2 s2->RelV x v->RelV y u->R x y H2->wpAny (model X.prog X.w) X.A (f v u) Q X.xe s2) :
  wpAny (model X.prog X.w) X.A (eval a X.env) (fun v s₁=>wpAny (model X.prog X.w) X.A (eval b X.env) (fun u s₂=>wpAny (model X.prog X.w) X.A (f v u) Q X.xe s₂) X.xe s₁) X.xe s:=by
 refine thn (ha pins s σ H _ I h) fun v s1 ⟨x,H1,I1,r1,q1⟩=>?_
 refine thn (hb pins s1 σ H1 _ I1 q1) fun u s2 ⟨y,H2,I2,r2,q2⟩=>?_
 exact hf v u s2 x y H2 I2 r1 r2 q2
noncomputable def tVar (i:Nat):TE:=fun σ H Q=>∃ v,σ[i]? = some (some v)/\Q v H
noncomputable def tC (v:V):TE:=fun _ H Q=>Q v H
theorem pe_var {i:Nat} {x:Str} {pos:Pos} (hN:X.N[i]? = some x) (hv:Vis X.env.scope x) (hd:(x == ("__debug__" : Str))=false:=by decide) (hcd:(x == ("__classdict__" : Str))=false:=by decide):PE X (.Name x pos) (tVar i):=by
 intro pins s σ H Q I h
 obtain ⟨v,e,h⟩:=h
 obtain ⟨m,hn,hl⟩:=I.loc
 obtain ⟨u,r,l⟩:=hl i x v hN e hv
 have fin:EP X pins σ Q u s:=⟨v,H,I,r,h⟩
 rcases l with ⟨hk,hm⟩ | ⟨hk,c,hc,hcell⟩
 ·exact wpAny_Name (wpAny_loadName_local I.ok.kind hk hn hm fin) hd
 ·rcases hk with hk | hk
  ·exact wpAny_Name (wpAny_loadName_cell I.ok.kind hk hc hcell fin) hd
  ·exact wpAny_Name (wpAny_loadName_free I.ok.kind hk hc hcell fin hcd) hd
theorem pe_int {i j pos}:PE X (.Constant (.int i) j pos) (tC (.int i)):=fun _ _ _ H _ I h=>wpAny_Constant_int ⟨.int i,H,I.tok _,⟨_,rfl⟩,h⟩
theorem pe_bl {b j pos}:PE X (.Constant (.bool b) j pos) (tC (.bl b)):=fun _ _ _ H _ I h=>Constant_bool ⟨.bl b,H,I,rfl,h⟩
theorem pe_non {j pos}:PE X (.Constant .none j pos) (tC .non):=fun _ _ _ H _ I h=>Constant_none ⟨.non,H,I,rfl,h⟩
theorem pe_str {x j pos}:PE X (.Constant (.str x) j pos) (tC (.str x)):=fun _ _ _ H _ I h=>Calls.Constant_str ⟨.str x,H,I.tok _,⟨_,rfl⟩,h⟩
noncomputable def Gl (X:Cx) (x:Str):Prop:=X.env.kindOf x=some .globalImplicit
theorem Vn {E:Value->Shared->Prop} {pins:List (Addr×Obj)} {s:Shared} {σ:St} {H:Hp} {x:Str} {u:Value} {pos:Pos} {Q:Value->Shared->Prop} (I:Inv X pins σ H s) (hg:Gl X x) (hm:X.mg x=some u) (h:Q u s)
  (hd:(x == ("__debug__" : Str))=false:=by decide):wpAny (model X.prog X.w) X.A (eval (.Name x pos) X.env) Q E s :=
 Calls.Name_function_global I.ok.kind hg (Calls.loadGlobal_global (by rw [I.ok.glob]; exact I.mod.glob.keeps I.bk) hm h) hd
theorem Waz {E:Value->Shared->Prop} {pins:List (Addr×Obj)} {s:Shared} {σ:St} {H:Hp} {x:Str} {u:Value} {pos:Pos} {Q:Value->Shared->Prop} (I:Inv X pins σ H s) (hg:Gl X x) (hm:X.mg x=none) (hv:bootBuiltins x=some u) (h:Q u s)
  (hn:x≠"__name__":=by decide) (hd:(x == ("__debug__" : Str))=false:=by decide):wpAny (model X.prog X.w) X.A (eval (.Name x pos) X.env) Q E s:=by
 obtain ⟨mb,h1,h2⟩:=I.mod.blt
 exact Calls.Name_function_global I.ok.kind hg (Calls.loadGlobal_builtin (by rw [I.ok.glob]; exact I.mod.glob.keeps I.bk) hm (by rw [I.ok.blt]; exact h1.keeps I.bk) ((h2 x hn).trans hv) h) hd
theorem Xbi {x:Str} {v:V} {u:Value} {pos:Pos} (hg:Gl X x) (hm:X.mg x=some u) (r:RelV v u) (hd:(x == ("__debug__" : Str))=false:=by decide):PE X (.Name x pos) (tC v) :=
 fun _ _ _ H _ I h=>Vn I hg hm ⟨v,H,I,r,h⟩ hd
theorem Wap {x:Str} {v:V} {u:Value} {pos:Pos} (hg:Gl X x) (hm:X.mg x=none) (hv:bootBuiltins x=some u) (r:RelV v u) (hn:x≠"__name__":=by decide) (hd:(x == ("__debug__" : Str))=false:=by decide):PE X (.Name x pos) (tC v) :=
 fun _ _ _ H _ I h=>Waz I hg hm hv ⟨v,H,I,r,h⟩ hn hd
variable {a b:Expr} {ta tb:TE} {pos:Pos}
noncomputable def PC (X:Cx) (op:CmpOp) (a b:Expr) (t:TE):Prop :=
 ∀ (pins:List (Addr×Obj)) (s:Shared) (σ:St) (H:Hp) (Q:VK),Inv X pins σ H s->t σ H Q ->
  wpAny (model X.prog X.w) X.A (eval a X.env) (fun v s₁=>wpAny (model X.prog X.w) X.A (eval b X.env) (fun u s₂=>wpAny (model X.prog X.w) X.A (compareOp op v u) (EP X pins σ Q) X.xe s₂) X.xe s₁) X.xe s
theorem Zay (b:Expr) {op:CmpOp} (h:op≠.In) (h2:op≠.NotIn):behindInMarks op b=false:=by
 have e1:(op == CmpOp.In)=false:=by cases op <;> first | rfl | exact absurd rfl h
 have e2:(op == CmpOp.NotIn)=false:=by cases op <;> first | rfl | exact absurd rfl h2
 cases b <;> simp [behindInMarks,e1,e2]
noncomputable def tB (t:TE):TT:=fun σ H Q=>t σ H fun x H1=>∃ c,x = .bl c/\Q c H1
theorem pe_cmp {op:CmpOp} {t:TE} (h:PC X op a b t) (h1:behindInMarks op b=false:=by first | exact Zay _ (by decide) (by decide) | rfl):PE X (.Compare a [op] [b] pos) t:=fun pins s σ H Q I hw=>wpAny_Compare1 (h pins s σ H Q I hw) h1
theorem pt_cmp {op:CmpOp} {t:TE} (h:PC X op a b t) (h1:behindInMarks op b=false:=by first | exact Zay _ (by decide) (by decide) | rfl):PT X (.Compare a [op] [b] pos) (tB t):=by
 intro pins s σ H Q I hw
 refine wpAny_isTrue_Compare1 (thn (h pins s σ H _ I hw) fun v s1 h1=>thn h1 fun u s2 h2=>thn h2 fun c s3 ⟨x,H1,I1,r1,q1⟩=>?_) h1
 obtain ⟨d,rfl,q⟩:=q1
 cases r1
 exact wpAny_truthy_bool ⟨H1,I1,q⟩
variable {tA tB':TT} {rest:List Expr}
noncomputable def tAnd (t u:TT):TT:=fun σ H Q=>t σ H fun c H1=>if c=true then u σ H1 Q else Q false H1
noncomputable def tOr (t u:TT):TT:=fun σ H Q=>t σ H fun c H1=>if c=true then Q true H1 else u σ H1 Q
noncomputable def tNot (t:TT):TT:=fun σ H Q=>t σ H fun c H1=>Q (!c) H1
theorem pw_and1 (ha:PT X a tA):PW X (.BoolOp .And [a] pos) tA:=by
 intro wh pins s σ H Q I h
 refine isTrue_and (thn (ha pins s σ H Q I h) fun c s1 e=>?_)
 cases c with
 | true=>exact isTrue_and_nil e
 | false=>exact e
theorem pw_or1 (ha:PT X a tA):PW X (.BoolOp .Or [a] pos) tA:=by
 intro wh pins s σ H Q I h
 refine isTrue_or (thn (ha pins s σ H Q I h) fun c s1 e=>?_)
 cases c with
 | false=>exact isTrue_or_nil e
 | true=>exact e
theorem pw_and (ha:PT X a tA) (hb:PW X (.BoolOp .And (b :: rest) pos) tB'):PW X (.BoolOp .And (a :: b :: rest) pos) (tAnd tA tB'):=by
 intro wh pins s σ H Q I h
 refine isTrue_and (thn (ha pins s σ H _ I h) fun c s1 ⟨H1,I1,q1⟩=>?_)
 cases c with
 | true=>exact hb wh pins s1 σ H1 Q I1 q1
 | false=>exact ⟨H1,I1,q1⟩
theorem pw_or (ha:PT X a tA) (hb:PW X (.BoolOp .Or (b :: rest) pos) tB'):PW X (.BoolOp .Or (a :: b :: rest) pos) (tOr tA tB'):=by
 intro wh pins s σ H Q I h
 refine isTrue_or (thn (ha pins s σ H _ I h) fun c s1 ⟨H1,I1,q1⟩=>?_)
 cases c with
 | true=>exact ⟨H1,I1,q1⟩
 | false=>exact hb wh pins s1 σ H1 Q I1 q1
theorem pt_not (ha:PT X a tA):PT X (.UnaryOp .Not a pos) (tNot tA):=by
 intro pins s σ H Q I h
 exact isTrue_not (ha pins s σ H (fun c H1=>Q (!c) H1) I h)
noncomputable def tAndV (ta tb:TE):TE:=fun σ H Q=>ta σ H fun x H1=>∃ c,x = .bl c/\if c=true then tb σ H1 Q else Q (.bl false) H1
noncomputable def tOrV (ta tb:TE):TE:=fun σ H Q=>ta σ H fun x H1=>∃ c,x = .bl c/\if c=true then Q (.bl true) H1 else tb σ H1 Q
noncomputable def tNotV (ta:TE):TE:=fun σ H Q=>ta σ H fun x H1=>∃ c,x = .bl c/\Q (.bl (!c)) H1
theorem pe_one {op} {t:TE} (h:PE X a t):PE X (.BoolOp op [a] pos) t:=fun pins s σ H Q I hw=>BoolOp_one (h pins s σ H Q I hw)
theorem pe_and (ha:PE X a ta) (hb:PE X (.BoolOp .And (b :: rest) pos) tb):PE X (.BoolOp .And (a :: b :: rest) pos) (tAndV ta tb):=by
 intro pins s σ H Q I h
 refine BoolOp_and (thn (ha pins s σ H _ I h) fun v s1 ⟨x,H1,I1,r1,q1⟩=>?_)
 obtain ⟨c,rfl,q1⟩:=q1
 cases r1
 refine wpAny_truthy_bool ?_
 cases c with
 | true=>exact hb pins s1 σ H1 Q I1 q1
 | false=>exact ⟨.bl false,H1,I1,rfl,q1⟩
theorem pe_or (ha:PE X a ta) (hb:PE X (.BoolOp .Or (b :: rest) pos) tb):PE X (.BoolOp .Or (a :: b :: rest) pos) (tOrV ta tb):=by
 intro pins s σ H Q I h
 refine BoolOp_or (thn (ha pins s σ H _ I h) fun v s1 ⟨x,H1,I1,r1,q1⟩=>?_)
 obtain ⟨c,rfl,q1⟩:=q1
 cases r1
 refine wpAny_truthy_bool ?_
 cases c with
 | false=>exact hb pins s1 σ H1 Q I1 q1
 | true=>exact ⟨.bl true,H1,I1,rfl,q1⟩
theorem pe_not (ha:PE X a ta):PE X (.UnaryOp .Not a pos) (tNotV ta):=by
 intro pins s σ H Q I h
 refine UnaryOp_ (thn (ha pins s σ H _ I h) fun v s1 ⟨x,H1,I1,r1,q1⟩=>?_)
 obtain ⟨c,rfl,q1⟩:=q1
 cases r1
 exact not_of (wpAny_truthy_bool ⟨.bl (!c),H1,I1,rfl,q1⟩)
end
end L2
namespace L2
open PySem PySem.Spec PyProof.Rows
noncomputable def SqL (K:PySem.W.Frag) (H:Hp) (a:Addr) (xs:List V):Prop :=
 Rd H a (.lst xs) ∨
  ∃ (o:Obj) (its:Array Value) (n:Nat),K.lookup a=some o/\o.cls = .type "list"/\o.dict=none/\o.data = .seq its n/\its.size<=sizeLine/\Vals xs its.toList
noncomputable def SqT (K:PySem.W.Frag) (H:Hp) (a:Addr) (xs:List V):Prop :=
 Rd H a (.tup xs) ∨
  ∃ (o:Obj) (its:Array Value) (n:Nat),K.lookup a=some o/\o.cls = .type "tuple"/\o.data = .seq its n/\its.size<=sizeLine/\Vals xs its.toList
noncomputable def absV:Value->Option V
 | .none=>some .non
 | .bool b=>some (.bl b)
 | .int i _=>some (.int i)
 | .str x _=>some (.str x)
 | .bytes b _=>some (.byt b)
 | .float b _=>some (.flt b)
 | .ref a=>some (.ref a)
 | .type n=>some (.ty n)
 | _=>none
theorem RelV.abs {x:V} {u:Value} (r:RelV x u):absV u=some x:=by
 cases x with
 | non=>cases r; rfl
 | bl _=>cases r; rfl
 | int _=>obtain ⟨t,rfl⟩:=r; rfl
 | str _=>obtain ⟨t,rfl⟩:=r; rfl
 | byt _=>obtain ⟨t,rfl⟩:=r; rfl
 | flt _=>obtain ⟨t,rfl⟩:=r; rfl
 | ref _=>cases r; rfl
 | ty _=>cases r; rfl
theorem RelV.inj {x y:V} {u:Value} (r:RelV x u) (q:RelV y u):x=y:=Option.some.inj (r.abs.symm.trans q.abs)
theorem Vals.inj:∀ {xs ys:List V} {us:List Value},Vals xs us->Vals ys us->xs=ys
 | _,_,_,.nil,.nil=>rfl
 | _,_,_,.cons r t,.cons r' t'=>by rw [r.inj r',Vals.inj t t']
section
variable {X:Cx} {pins:List (Addr×Obj)} {σ:St} {H:Hp} {s:Shared} {a:Addr} {xs ys:List V}
theorem SqL.of {K:PySem.W.Frag} (h:H a=some (.lst xs)):SqL K H a xs:=.inl (.inl h)
theorem SqT.of {K:PySem.W.Frag} (h:H a=some (.tup xs)):SqT K H a xs:=.inl (.inl h)
theorem Inv.list (I:Inv X pins σ H s) (h:SqL X.K H a xs):∃ its:List Value,Vals xs its/\PlainL s.heap a its.toArray/\xs.length<=sizeLine:=by
 rcases h with h | ⟨o,its,n,hk,hc,hd,hs,hz,r⟩
 ·obtain ⟨z,its,n,r,e⟩:=h.ok I.hok
  exact ⟨its,r,⟨_,n,e,rfl,rfl,rfl⟩,z⟩
 ·refine ⟨its.toList,r,⟨o,n,I.kIn a o hk,hc,hd,by simpa using hs⟩,?_⟩
  have e:=r.length
  simp only [Array.length_toList] at e
  omega
theorem Inv.tuple (I:Inv X pins σ H s) (h:SqT X.K H a xs):∃ its:List Value,Vals xs its/\IsTup s.heap a its.toArray/\xs.length<=sizeLine:=by
 rcases h with h | ⟨o,its,n,hk,hc,hs,hz,r⟩
 ·obtain ⟨z,its,r,p⟩:=h.ok I.hok
  exact ⟨its,r,p.is,z⟩
 ·refine ⟨its.toList,r,⟨o,I.kIn a o hk,hc,n,by simpa using hs⟩,?_⟩
  have e:=r.length
  simp only [Array.length_toList] at e
  omega
theorem Inv.list_inj (I:Inv X pins σ H s) (h:SqL X.K H a xs) (h':SqL X.K H a ys):xs=ys:=by
 obtain ⟨its,r,⟨o,n,e,_,_,d⟩,_⟩:=I.list h
 obtain ⟨its',r',⟨o',n',e',_,_,d'⟩,_⟩:=I.list h'
 rw [e] at e'; cases e'
 rw [d] at d'
 injection d' with d1 _
 have:its=its':=by simpa using congrArg Array.toList d1
 subst this
 exact r.inj r'
theorem Inv.tuple_inj (I:Inv X pins σ H s) (h:SqT X.K H a xs) (h':SqT X.K H a ys):xs=ys:=by
 obtain ⟨its,r,⟨o,e,_,n,d⟩,_⟩:=I.tuple h
 obtain ⟨its',r',⟨o',e',_,n',d'⟩,_⟩:=I.tuple h'
 rw [e] at e'; cases e'
 rw [d] at d'
 injection d' with d1 _
 have:its=its':=by simpa using congrArg Array.toList d1
 subst this
 exact r.inj r'
end
noncomputable abbrev Cx.wish (X:Cx) (E:Value->Shared->Prop):Cx:={ X with xe:=E }
noncomputable abbrev Cx.nox (X:Cx):Cx:=X.wish fun _ _=>False
theorem Cx.Ok.wish {X:Cx} (ok:X.Ok) (E:Value->Shared->Prop):(X.wish E).Ok :=
 ⟨ok.mod,ok.kind,ok.glob,ok.blt,ok.above,ok.inj,ok.has,ok.cab,ok.hd,ok.frames,ok.stk,ok.exf,ok.bs,ok.bsz,ok.noex,ok.exfs,ok.funs,ok.frf⟩
theorem Cx.Ok.unwish {X:Cx} {E:Value->Shared->Prop} (ok:(X.wish E).Ok):X.Ok :=
 ⟨ok.mod,ok.kind,ok.glob,ok.blt,ok.above,ok.inj,ok.has,ok.cab,ok.hd,ok.frames,ok.stk,ok.exf,ok.bs,ok.bsz,ok.noex,ok.exfs,ok.funs,ok.frf⟩
section
variable {X:Cx} {pins:List (Addr×Obj)} {σ:St} {H:Hp} {s:Shared} {E:Value->Shared->Prop}
theorem Inv.wish (I:Inv X pins σ H s) (E:Value->Shared->Prop):Inv (X.wish E) pins σ H s:=⟨I.ok.wish E,I.os,I.bare,I.base,I.loc,I.cell,I.free,I.freeC,I.pin,I.hok,I.len,I.hh⟩
theorem Inv.unwish (I:Inv (X.wish E) pins σ H s):Inv X pins σ H s:=⟨I.ok.unwish,I.os,I.bare,I.base,I.loc,I.cell,I.free,I.freeC,I.pin,I.hok,I.len,I.hh⟩
theorem SP.unwish {D:Ends} {f:Flow} {s':Shared} (h:SP (X.wish E) pins D f s'):SP X pins D f s':=by
 cases f with
 | next=>obtain ⟨σ',H',I,q⟩:=h; exact ⟨σ',H',I.unwish,q⟩
 | brk=>obtain ⟨σ',H',I,q⟩:=h; exact ⟨σ',H',I.unwish,q⟩
 | cont=>obtain ⟨σ',H',I,q⟩:=h; exact ⟨σ',H',I.unwish,q⟩
 | ret u=>obtain ⟨v,σ',H',I,r,q⟩:=h; exact ⟨v,σ',H',I.unwish,r,q⟩
theorem PE.nox {e:Expr} {t:TE} (h:PE X.nox e t):PE X e t:=fun pins s σ H Q I hw =>
 wpAny_mono (h pins s σ H Q (I.wish _) hw) (fun _ _ ⟨v,H',I',r,q⟩=>⟨v,H',I'.unwish,r,q⟩) fun _ _ z=>False.elim z
theorem PT.nox {e:Expr} {t:TT} (h:PT X.nox e t):PT X e t:=fun pins s σ H Q I hw =>
 wpAny_mono (h pins s σ H Q (I.wish _) hw) (fun _ _ ⟨H',I',q⟩=>⟨H',I'.unwish,q⟩) fun _ _ z=>False.elim z
theorem PSs.nox {st:List Stmt} {t:TS} (h:PSs X.nox st t):PSs X st t:=fun pins s σ H D I hw =>
 wpAny_mono (h pins s σ H D (I.wish _) hw) (fun _ _ q=>q.unwish) fun _ _ z=>False.elim z
end
section
variable {X:Cx} {st:Stmt} {rest:List Stmt} {t u:TS} {e:Expr} {te:TE} {pos:Pos}
noncomputable def tNext:TS:=fun D σ H=>D.nx σ H
noncomputable def tSeq (t u:TS):TS:=fun D σ H=>t { D with nx:=u D } σ H
theorem pss_nil:PSs X [] tNext:=fun _ _ σ H _ I h=>wpAny_execs_nil ⟨σ,H,I,h⟩
theorem Wb4 (h1:PS X st t) (h2:PSs X rest u):PSs X (st :: rest) (tSeq t u):=by
 intro pins s σ H D I h
 refine wpAny_execs_cons (thn (h1 pins s σ H { D with nx:=u D } I h) fun f s1 q=>?_)
 cases f with
 | next =>
  obtain ⟨σ',H',I',q⟩:=q
  exact h2 pins s1 σ' H' D I' q
 | ret v=>exact q
 | brk=>exact q
 | cont=>exact q
theorem Inv.quiet {pins:List (Addr×Obj)} {σ:St} {H:Hp} {s:Shared} (I:Inv X pins σ H s):interactive X.env=false:=by simp [interactive,I.ok.kind]
noncomputable def tDrop (te:TE):TS:=fun D σ H=>te σ H fun _ H1=>D.nx σ H1
theorem ps_expr (he:PE X e te) (hs:swapsWith e none pos.line X.env=pure false:=by rfl):PS X (.Expr e pos) (tDrop te):=by
 intro pins s σ H D I h
 exact wpAny_Expr_any (thn (he pins s σ H _ I h) fun v s1 ⟨x,H1,I1,r1,q1⟩=>⟨σ,H1,I1,q1⟩) I.quiet hs
noncomputable def tRet (te:TE):TS:=fun D σ H=>te σ H D.rt
theorem ps_ret (he:PE X e te):PS X (.Return (some e) pos) (tRet te):=by
 intro pins s σ H D I h
 exact wpAny_Return_some (thn (he pins s σ H _ I h) fun v s1 ⟨x,H1,I1,r1,q1⟩=>⟨x,σ,H1,I1,r1,q1⟩)
noncomputable def tIfS (c:TT) (t u:TS):TS:=fun D σ H=>c σ H fun b H1=>if b=true then t D σ H1 else u D σ H1
theorem ps_if {c:Expr} {a b:List Stmt} {tc:TT} (hc:PT X c tc) (ha:PSs X a t) (hb:PSs X b u):PS X (.If c a b pos) (tIfS tc t u):=by
 intro pins s σ H D I h
 refine wpAny_If (thn (hc pins s σ H _ I h) fun d s1 ⟨H1,I1,q1⟩=>?_)
 cases d with
 | true=>exact ha pins s1 σ H1 D I1 q1
 | false=>exact hb pins s1 σ H1 D I1 q1
end
noncomputable abbrev TG:=V->St->Hp->(St->Hp->Prop)->Prop
noncomputable abbrev TGs:=List V->St->Hp->(St->Hp->Prop)->Prop
noncomputable def PG (X:Cx) (target:Expr) (t:TG):Prop :=
 ∀ (pins:List (Addr×Obj)) (s:Shared) (σ:St) (H:Hp) (v:V) (u:Value) (Q:St->Hp->Prop),Inv X pins σ H s->RelV v u->t v σ H Q ->
  wpAny (model X.prog X.w) X.A (assign target X.env u) (fun _ s'=>∃ σ' H',Inv X pins σ' H' s'/\Q σ' H') X.xe s
noncomputable def PGs (X:Cx) (ts:List Expr) (t:TGs):Prop :=
 ∀ (pins:List (Addr×Obj)) (s:Shared) (σ:St) (H:Hp) (vs:List V) (us:List Value) (Q:St->Hp->Prop),Inv X pins σ H s->Vals vs us->t vs σ H Q ->
  wpAny (model X.prog X.w) X.A (assignInOrder ((assignEach ts X.env).map (·.2)) us) (fun _ s'=>∃ σ' H',Inv X pins σ' H' s'/\Q σ' H') X.xe s
noncomputable abbrev TSet:=V->V->V->Hp->(Hp->Prop)->Prop
noncomputable def PSet (X:Cx) (t:TSet):Prop :=
 ∀ (pins:List (Addr×Obj)) (s:Shared) (σ:St) (H:Hp) (o i v:V) (ov iv u:Value) (Q:Hp->Prop),Inv X pins σ H s->RelV o ov->RelV i iv->RelV v u->t o i v H Q ->
  wpAny (model X.prog X.w) X.A (setItem ov iv u) (fun _ s'=>∃ H',Inv X pins σ H' s'/\Q H') X.xe s
noncomputable abbrev TIp:=V->V->Hp->VK->Prop
noncomputable def PIp (X:Cx) (op:Operator) (t:TIp):Prop :=
 ∀ (pins:List (Addr×Obj)) (s:Shared) (σ:St) (H:Hp) (x y:V) (v u:Value) (Q:VK),Inv X pins σ H s->RelV x v->RelV y u->t x y H Q ->
  wpAny (model X.prog X.w) X.A (inplaceOp op v u) (EP X pins σ Q) X.xe s
section
variable {X:Cx} {pos:Pos}
noncomputable def Xbr (i:Nat):TG:=fun v σ H Q=>Q (σ.set i (some v)) H
theorem Ybi {i:Nat} {x:Str} (hN:X.N.Nodup) (hi:X.N[i]? = some x) (hx:Loc X.env.scope x) (hf:X.fn x=true∨X.env.scope.names.lookup x=some .local:=by first | exact .inl rfl | exact .inr rfl | assumption):PG X (.Name x pos) (Xbr i):=by
 intro pins s σ H v u Q I r h
 exact wpAny_assign_Name (Xab I hN hi hx r (fun s' I'=>⟨_,H,I',h⟩) hf)
noncomputable def gNil:TGs:=fun vs σ H Q=>vs=[]/\Q σ H
noncomputable def gCons (t:TG) (u:TGs):TGs:=fun vs σ H Q=>∃ v r,vs=v :: r/\t v σ H fun σ' H'=>u r σ' H' Q
theorem pgs_nil:PGs X [] gNil:=by
 intro pins s σ H vs us Q I r h
 obtain ⟨e,h⟩:=h
 subst e
 cases r
 exact assignInOrder_nil ⟨σ,H,I,h⟩
theorem Vb5 {e:Expr} {es:List Expr} {t:TG} {u:TGs} (h1:PG X e t) (h2:PGs X es u)
  (hs:(assignEach (e :: es) X.env).map (·.2)=assign e X.env :: (assignEach es X.env).map (·.2):=by rfl):PGs X (e :: es) (gCons t u):=by
 intro pins s σ H vs us Q I r h
 obtain ⟨v,vr,e1,h⟩:=h
 subst e1
 cases r with
 | cons r rr =>
  rw [hs]
  refine assignInOrder_cons (thn (h1 pins s σ H _ _ _ I r h) fun _ s1 ⟨σ1,H1,I1,q1⟩=>?_)
  exact h2 pins s1 σ1 H1 _ _ Q I1 rr q1
noncomputable def gTup (K:PySem.W.Frag) (n:Nat) (t:TGs):TG:=fun v σ H Q=>∃ a xs,v = .ref a/\SqT K H a xs/\xs.length=n/\t xs σ H Q
theorem pg_tup {es:List Expr} {k:Nat} {t:TGs} {n:Nat} (hc:X.calm=true) (h:PGs X es t)
  (hn:(assignEach es X.env).length=n:=by rfl) (hst:(assignEach es X.env).findIdx? (·.1)=none:=by rfl):PG X (.Tuple es k pos) (gTup X.K n t):=by
 intro pins s σ H v u Q I r hw
 obtain ⟨a,xs,e1,hq,hl,hw⟩:=hw
 subst e1
 cases r
 obtain ⟨its,rv,ht,hz⟩:=I.tuple hq
 refine assign_Tuple_tuple (I.ok.hd hc) ht (by simp [hn,<- hl,rv.length]) hst fun h' hx=>?_
 have I1:Inv X pins σ H { s with heap:=h' }:=I.kept (t':=s.toks) fun b o e=>hx b o (Nat.ne_of_lt (Heap.lt_size e)) e
 exact h pins _ σ H xs _ Q I1 (by simpa using rv) hw
noncomputable def gSub (to ti:TE) (t:TSet):TG:=fun v σ H Q=>to σ H fun o H1=>ti σ H1 fun i H2=>t o i v H2 fun H3=>Q σ H3
theorem pg_sub {o i:Expr} {to ti:TE} {t:TSet} (ho:PE X o to) (hi:PE X i ti) (hs:PSet X t)
  (ha:∀ v,assign (.Subscript o i pos) X.env v=(do
   let ov <- holding [v] (eval o X.env)
   let iv <- holding [v,ov] (eval i X.env)
   standAt pos
   holding [v,ov,iv] (setItem ov iv v)
   release [v,ov,iv] []):=by intro _; rfl):PG X (.Subscript o i pos) (gSub to ti t):=by
 intro pins s σ H v u Q I r h
 rw [ha]
 refine wpAny_bind (wpAny_holding (thn (ho pins s σ H _ I h) fun ov s1 ⟨x,H1,I1,r1,q1⟩=>?_))
 refine wpAny_bind (wpAny_holding (thn (hi pins s1 σ H1 _ I1 q1) fun iv s2 ⟨y,H2,I2,r2,q2⟩=>?_))
 refine wpAny_bind (wpAny_standAt (wpAny_bind (wpAny_holding (thn (hs pins s2 σ H2 x y v ov iv u _ I2 r1 r2 r q2) fun _ s3 ⟨H3,I3,q3⟩=>?_))))
 exact wpAny_release ⟨σ,H3,I3,q3⟩
noncomputable def tAsg (te:TE) (g:TG):TS:=fun D σ H=>te σ H fun x H1=>g x σ H1 D.nx
theorem ps_asg {tg e:Expr} {te:TE} {g:TG} (he:PE X e te) (hg:PG X tg g) (hs:swapsWithSole [tg] e pos.line X.env=pure false:=by rfl) (hw:swappedStores [tg] e X.env=pure none:=by rfl)
  (h1:(assignEach [tg] X.env).map (·.2)=[assign tg X.env]:=by rfl):PS X (.Assign [tg] e pos) (tAsg te g):=by
 intro pins s σ H D I h
 refine wpAny_Assign_stores (thn (he pins s σ H _ I h) fun v s1 ⟨x,H1,I1,r1,q1⟩=>?_) hs hw
 rw [h1]
 exact thn (hg pins s1 σ H1 x v _ I1 r1 q1) fun _ s2 q=>q
theorem ps_set {i:Nat} {x:Str} {e:Expr} {te:TE} {pos':Pos} (hN:X.N.Nodup) (hi:X.N[i]? = some x) (hx:Loc X.env.scope x) (he:PE X e te) (hs:swapsWith e (some (.Name x pos')) pos.line X.env=pure false:=by rfl) (hf:X.fn x=true∨X.env.scope.names.lookup x=some .local:=by first | exact .inl rfl | exact .inr rfl | assumption) :
  PS X (.Assign [.Name x pos'] e pos) (tAsg te (Xbr i)):=by
 intro pins s σ H D I h
 refine wpAny_Assign_Name (thn (he pins s σ H _ I h) fun v s1 ⟨y,H1,I1,r1,q1⟩=>?_) hs
 exact Xab I1 hN hi hx r1 (fun s2 I2=>⟨_,H1,I2,q1⟩) hf
noncomputable def tAugS (to ti te:TE) (tget:V->V->Hp->VK->Prop) (tip:TIp) (tset:TSet):TS:=fun D σ H=>to σ H fun o H1=>ti σ H1 fun i H2=>tget o i H2 fun x H3=>te σ H3 fun y H4=>tip x y H4 fun z H5=>tset o i z H5 fun H6=>D.nx σ H6
noncomputable def PGet (X:Cx) (t:V->V->Hp->VK->Prop):Prop :=
 ∀ (pins:List (Addr×Obj)) (s:Shared) (σ:St) (H:Hp) (o i:V) (ov iv:Value) (Q:VK),Inv X pins σ H s->RelV o ov->RelV i iv->t o i H Q ->
  wpAny (model X.prog X.w) X.A (getItem ov iv) (EP X pins σ Q) X.xe s
theorem Vbg {o i e:Expr} {to ti te:TE} {tget:V->V->Hp->VK->Prop} {tip:TIp} {tset:TSet} {op:Operator} {tpos:Pos} (ho:PE X o to) (hi:PE X i ti) (hg:PGet X tget) (he:PE X e te) (hp:PIp X op tip) (hs:PSet X tset)
  (ha:∀ ov iv new,augStore i ov iv new=(do holding [new,ov,iv] (setItem ov iv new); release [new,ov,iv] []; pure .next):=by intros; rfl):PS X (.AugAssign (.Subscript o i tpos) op e pos) (tAugS to ti te tget tip tset):=by
 intro pins s σ H D I h
 refine wpAny_AugAssign_SubscriptAny (thn (ho pins s σ H _ I h) fun ov s1 ⟨x1,H1,I1,r1,q1⟩=>?_) ha
 refine thn (hi pins s1 σ H1 _ I1 q1) fun iv s2 ⟨x2,H2,I2,r2,q2⟩=>?_
 refine thn (hg pins s2 σ H2 x1 x2 ov iv _ I2 r1 r2 q2) fun old s3 ⟨x3,H3,I3,r3,q3⟩=>?_
 refine thn (he pins s3 σ H3 _ I3 q3) fun v s4 ⟨x4,H4,I4,r4,q4⟩=>?_
 refine thn (hp pins s4 σ H4 x3 x4 old v _ I4 r3 r4 q4) fun new s5 ⟨x5,H5,I5,r5,q5⟩=>?_
 exact thn (hs pins s5 σ H5 x1 x2 x5 ov iv new _ I5 r1 r2 r5 q5) fun _ s6 ⟨H6,I6,q6⟩=>⟨σ,H6,I6,q6⟩
noncomputable def ipI (f:Int->Int->Int):TIp:=fun x y H Q=>∃ i j,x = .int i/\y = .int j/\Q (.int (f i j)) H
theorem ip_add:PIp X .Add (ipI fun i j=>i + j):=by
 intro pins s σ H x y v u Q I r1 r2 h
 obtain ⟨i,j,e1,e2,q⟩:=h
 subst e1; subst e2
 obtain ⟨t,rfl⟩:=r1
 obtain ⟨t',rfl⟩:=r2
 exact iadd_int ⟨.int _,H,I.tok _,⟨_,rfl⟩,q⟩
theorem ip_sub:PIp X .Sub (ipI fun i j=>i - j):=by
 intro pins s σ H x y v u Q I r1 r2 h
 obtain ⟨i,j,e1,e2,q⟩:=h
 subst e1; subst e2
 obtain ⟨t,rfl⟩:=r1
 obtain ⟨t',rfl⟩:=r2
 exact isub_int ⟨.int _,H,I.tok _,⟨_,rfl⟩,q⟩
end
section
variable {X:Cx} {pos:Pos}
end
structure It where
 go:Nat->Hp->Prop
 yld:Nat->Hp->V->Hp->Prop
 stop:Nat->Hp->Prop
noncomputable def FpOk (X:Cx) (pins:List (Addr×Obj)) (H:Hp) (b:Addr):Prop :=
 H b=none/\b≠X.env.locals/\b ∉ X.fs/\(b∈X.ex∨X.s₀.heap.objs.size<=b)/\(∀ x c,X.env.cells.lookup x=some c->c≠b)/\∀ p∈X.pn ++ pins,p.1≠b
theorem Inv.fpOk {X:Cx} {pins:List (Addr×Obj)} {σ:St} {H H':Hp} {s:Shared} {b:Addr} (I:Inv X pins σ H s) (hb:s.heap.objs.size<=b) (hn:H' b=none):FpOk X pins H' b:=by
 refine ⟨hn,Nat.ne_of_gt (Nat.lt_of_lt_of_le I.lt hb),I.nofs hb,.inr (Nat.le_trans I.sz hb),fun x c e z=>?_,fun p hp z=>?_⟩
 ·obtain ⟨v,q⟩:=I.cell x c e
  exact absurd (Nat.lt_of_lt_of_le q.lt (by rw [z]; exact hb)) (Nat.lt_irrefl _)
 ·exact absurd (Nat.lt_of_lt_of_le (Heap.lt_size (I.pin p hp).1) (by rw [z]; exact hb)) (Nat.lt_irrefl _)
structure Turn (cb:Bool) (P:Program) (w:World) (K:PySem.W.Frag) (tg:Expr) (J:It) (fp:List Addr) (it:Addr) (tn:Nat->Heap->Prop):Prop where
 mem:it∈fp
 obj:∀ i h,tn i h->∀ b∈fp,∃ o,h.get? b=some o/\∀ v,o.data≠.cell v
 keep:∀ i h h',tn i h->(∀ b∈fp,∀ o,h.get? b=some o->h'.get? b=some o)->tn i h'
 item:∀ (X:Cx),X.prog=P->X.w=w->X.K=K->X.calm=cb->∀ (i:Nat) (pins:List (Addr×Obj)) (s:Shared) (σ:St) (H:Hp) (E:Value->Shared->Prop),Inv X pins σ H s->(∀ b∈fp,FpOk X pins H b)->tn i s.heap->J.go i H ->
  wpAny (model P w) X.A (pyNext (.ref it)) (fun r s1=>∃ u,r=some u /\
   wpAny (model P w) X.A (letOwnedTupleGo tg (.ref it) u) (fun _ s2=>∃ x H',Inv X pins σ H' s2/\RelV x u/\J.yld i H x H'/\tn (i + 1) s2.heap/\∀ b∈fp,H' b=none) E s1) E s
 done:∀ (X:Cx),X.prog=P->X.w=w->X.K=K->X.calm=cb->∀ (i:Nat) (pins:List (Addr×Obj)) (s:Shared) (σ:St) (H:Hp) (E:Value->Shared->Prop),Inv X pins σ H s->(∀ b∈fp,FpOk X pins H b)->tn i s.heap->J.stop i H ->
  wpAny (model P w) X.A (pyNext (.ref it)) (fun r s1=>r=none/\Inv X pins σ H s1) E s
 self:∀ (A:Around) (i:Nat) (s:Shared) (Q:Value->Shared->Prop) (E:Value->Shared->Prop),tn i s.heap->Q (.ref it) s->wpAny (model P w) A (pyIter (.ref it)) Q E s
noncomputable abbrev TI:=St->Hp->(It->Hp->Prop)->Prop
noncomputable def PIE (X:Cx) (pins:List (Addr×Obj)) (σ:St) (tg:Expr) (R:It->Hp->Prop) (itv:Value) (s2:Shared):Prop :=
 ∃ (it:Addr) (fp:List Addr) (tn:Nat->Heap->Prop) (J:It) (H':Hp),itv = .ref it/\Inv X pins σ H' s2/\Turn X.calm X.prog X.w X.K tg J fp it tn/\tn 0 s2.heap/\(∀ b∈fp,FpOk X pins H' b)/\R J H'
noncomputable def PI (X:Cx) (tg iter:Expr) (wi:TI):Prop :=
 ∀ (pins:List (Addr×Obj)) (s:Shared) (σ:St) (H:Hp) (R:It->Hp->Prop),Inv X pins σ H s->wi σ H R ->
  wpAny (model X.prog X.w) X.A (eval iter X.env) (fun v s1=>wpAny (model X.prog X.w) X.A (pyIter v) (PIE X pins σ tg R) X.xe s1) X.xe s
theorem Var {M : Model} {A : Around} {E : Value -> Shared -> Prop} {s : Shared} {tg : Expr} {it : Addr} {u : Value} {o : Obj} {n : String} {vs : Array Value} {Q : Unit -> Shared -> Prop} (ho : s.heap.get? it = some o) (hc : o.cls = .type n) (hd : o.data = .fields vs)
    (hn : ["enumerate", "zip", "dict_itemiterator", "dict_reverseitemiterator", "odict_iterator", "itertools.zip_longest", "itertools.pairwise"].contains n = false) (hQ : Q () s) : wpAny M A (letOwnedTupleGo tg (.ref it) u) Q E s := by
  unfold letOwnedTupleGo
  cases tg <;> first
    | exact wpAny_pure hQ
    | (cases u <;> first
        | exact wpAny_pure hQ
        | (refine wpAny_bind (wpAny_load ho ?_)
           rw [hc, hd]
           show wpAny M A (if (["enumerate", "zip", "dict_itemiterator", "dict_reverseitemiterator", "odict_iterator", "itertools.zip_longest", "itertools.pairwise"].contains n && vs[0]? == some (rawInt _)) = true then _ else _) Q E s
           rw [if_neg (by intro h; rw [hn, Bool.false_and] at h; cases h)]
           exact wpAny_pure hQ))
noncomputable def Itl (K:PySem.W.Frag) (a:Addr):It :=
 ⟨fun i H=>∃ xs x,SqL K H a xs/\xs[i]? = some x,fun i H x H'=>H'=H/\∀ xs,SqL K H a xs->xs[i]? = some x,fun i H=>∃ xs,SqL K H a xs/\xs.length<=i⟩
noncomputable def Itt (K:PySem.W.Frag) (a:Addr):It :=
 ⟨fun i H=>∃ xs x,SqT K H a xs/\xs[i]? = some x,fun i H x H'=>H'=H/\∀ xs,SqT K H a xs->xs[i]? = some x,fun i H=>∃ xs,SqT K H a xs/\xs.length<=i⟩
noncomputable def Itr (lo:Int) (n:Nat):It:=⟨fun i _=>i < n,fun i H x H'=>H'=H/\x = .int (lo + i),fun i _=>n<=i⟩
theorem Zbc {cb:Bool} (hcb:cb=true) {P:Program} {w:World} {K:PySem.W.Frag} {tg:Expr} (a it:Addr):Turn cb P w K tg (Itl K a) [it] it (fun i h=>h.IsListIter it a i) where
 mem:=by simp
 obj:=fun i h st b hb=>by
  have e:b=it:=by simpa using hb
  subst e
  obtain ⟨o,e,c,d⟩:=st
  exact ⟨o,e,fun v z=>by rw [d] at z; cases z⟩
 keep:=fun i h h' st k=>st.at fun o e=>k it (by simp) o e
 item:=by
  intro X hP hw hK hc i pins s σ H E I hf st hg
  subst hP hw hK
  obtain ⟨xs,x,hq,hx⟩:=hg
  obtain ⟨its,rv,p,hz⟩:=I.list hq
  obtain ⟨u,hu,ru⟩:=rv.get hx
  obtain ⟨f0,f1,f2,f3,f4,f5⟩:=hf it (by simp)
  refine wpAny_pyNext_list_item st p.isList (x:=u) (by simpa using hu) fun h' st' sb=>?_
  have I1:Inv X pins σ H { s with heap:=h' }:=I.turned (t':=s.toks) (fun b o hb e=>(sb.2 b hb).trans e) f0 f1 f3 f4 f5
  obtain ⟨o,e,c,d⟩:=id st'
  exact ⟨u,rfl,Var (s:={ s with heap:=h' }) e c d (by decide) ⟨x,H,I1,ru,⟨rfl,fun ys hy=>by rw [I.list_inj hy hq]; exact hx⟩,st',fun b hb=>(hf b hb).1⟩⟩
 done:=by
  intro X hP hw hK hc i pins s σ H E I hf st hg
  subst hP hw hK
  obtain ⟨xs,hq,hx⟩:=hg
  obtain ⟨its,rv,p,hz⟩:=I.list hq
  obtain ⟨f0,f1,f2,f3,f4,f5⟩:=hf it (by simp)
  have hl:=rv.length
  exact wpAny_pyNext_list_end (I.ok.hd (hc.trans hcb)) st p.isList (by simp; omega) fun h' eb=>⟨rfl,I.turned (t':=s.toks) (fun b o hb e=>eb b o hb e) f0 f1 f3 f4 f5⟩
 self:=fun _ _ _ _ _ st h=>wpAny_pyIter_listiter st h
theorem Wa4 {cb:Bool} (hcb:cb=true) {P:Program} {w:World} {K:PySem.W.Frag} {tg:Expr} (a it:Addr):Turn cb P w K tg (Itt K a) [it] it (fun i h=>h.IsTupleIter it a i) where
 mem:=by simp
 obj:=fun i h st b hb=>by
  have e:b=it:=by simpa using hb
  subst e
  obtain ⟨o,e,c,d⟩:=st
  exact ⟨o,e,fun v z=>by rw [d] at z; cases z⟩
 keep:=fun i h h' st k=>st.at fun o e=>k it (by simp) o e
 item:=by
  intro X hP hw hK hc i pins s σ H E I hf st hg
  subst hP hw hK
  obtain ⟨xs,x,hq,hx⟩:=hg
  obtain ⟨its,rv,p,hz⟩:=I.tuple hq
  obtain ⟨u,hu,ru⟩:=rv.get hx
  obtain ⟨f0,f1,f2,f3,f4,f5⟩:=hf it (by simp)
  refine wpAny_pyNext_tuple_item st (show s.heap.IsTuple a its.toArray from p) (x:=u) (by simpa using hu) fun h' st' sb=>?_
  have I1:Inv X pins σ H { s with heap:=h' }:=I.turned (t':=s.toks) (fun b o hb e=>(sb.2 b hb).trans e) f0 f1 f3 f4 f5
  obtain ⟨o,e,c,d⟩:=id st'
  exact ⟨u,rfl,Var (s:={ s with heap:=h' }) e c d (by decide) ⟨x,H,I1,ru,⟨rfl,fun ys hy=>by rw [I.tuple_inj hy hq]; exact hx⟩,st',fun b hb=>(hf b hb).1⟩⟩
 done:=by
  intro X hP hw hK hc i pins s σ H E I hf st hg
  subst hP hw hK
  obtain ⟨xs,hq,hx⟩:=hg
  obtain ⟨its,rv,p,hz⟩:=I.tuple hq
  obtain ⟨f0,f1,f2,f3,f4,f5⟩:=hf it (by simp)
  have hl:=rv.length
  exact wpAny_pyNext_tuple_end (I.ok.hd (hc.trans hcb)) st (show s.heap.IsTuple a its.toArray from p) (by simp; omega) fun h' eb=>⟨rfl,I.turned (t':=s.toks) (fun b o hb e=>eb b o hb e) f0 f1 f3 f4 f5⟩
 self:=fun _ _ _ _ _ st h=>wpAny_pyIter_tupleiter st h
theorem Va4 {cb:Bool} {P:Program} {w:World} {K:PySem.W.Frag} {tg:Expr} (it:Addr) (lo:Int) (n:Nat):Turn cb P w K tg (Itr lo n) [it] it (fun i h=>IsRangeIter h it (lo + (i:Nat) * 1) ((n:Int) - (i:Nat)) 1) where
 mem:=by simp
 obj:=fun i h st b hb=>by
  have e:b=it:=by simpa using hb
  subst e
  exact ⟨_,st,fun v z=>by
   have z':Data.fields _=Data.cell v:=z
   cases z'⟩
 keep:=fun i h h' st k=>k it (by simp) _ st
 item:=by
  intro X hP hw hK hc i pins s σ H E I hf st hg
  subst hP hw hK
  obtain ⟨f0,f1,f2,f3,f4,f5⟩:=hf it (by simp)
  refine wpAny_pyNext_range_item st (by have:i < n:=hg; omega) fun h' st' sb=>?_
  have I1:Inv X pins σ H { s with heap:=h',toks:=s.toks + 1 }:=I.turned (fun b o hb e=>(sb.2 b hb).trans e) f0 f1 f3 f4 f5
  have e1:lo + ((i + 1:Nat):Int) * 1=lo + (i:Int) * 1 + 1:=by push_cast; omega
  have e2:(n:Int) - ((i + 1:Nat):Int)=(n:Int) - (i:Int) - 1:=by push_cast; omega
  refine ⟨_,rfl,Var (s:={ s with heap:=h',toks:=s.toks + 1 }) (n:="range_iterator") st' rfl rfl (by decide) ⟨.int (lo + i),H,I1,⟨s.toks,?_⟩,⟨rfl,rfl⟩,by rw [e1,e2]; exact st',fun b hb=>(hf b hb).1⟩⟩
  rw [Int.mul_one]
 done:=by
  intro X hP hw hK hc i pins s σ H E I hf st hg
  subst hP hw hK
  obtain ⟨f0,f1,f2,f3,f4,f5⟩:=hf it (by simp)
  exact Wa5 (I.hh.hds I.hok) st (by have:n<=i:=hg; omega) fun h' eb=>⟨rfl,I.turned (t':=s.toks) (fun b o hb e=>eb b o hb e) f0 f1 f3 f4 f5⟩
 self:=fun _ _ _ _ _ st h=>wpAny_pyIter_rangeiter st h
end L2
namespace L2
open PySem PySem.Spec PyProof.Rows
section
variable {X:Cx} {tg:Expr}
theorem Wb3 {pins:List (Addr×Obj)} {σ:St} {H:Hp} {s:Shared} {R:It->Hp->Prop} {E:Value->Shared->Prop} {lo hi:Int} {t u v:Tok} {tk:Nat} (I:Inv X pins σ H s) (h1 : -(2 ^ 62)<=lo) (h2:lo < 2 ^ 62) (h3 : -(2 ^ 62)<=hi) (h4:hi < 2 ^ 62)
  (q:R (Itr lo (hi - lo).toNat) H):wpAny (model X.prog X.w) X.A (pyIter (.ref s.heap.objs.size)) (PIE X pins σ tg R) E { s with heap:=s.heap.push { cls:=.type "range",data:=.fields #[.int lo t,.int hi u,.int 1 v] },toks:=tk }:=by
 refine wpAny_pyIter_range (IsRange.new ..) (small_one h1 h2 h3 h4) ?_
 have I1:Inv X pins σ H { s with heap:=s.heap.push { cls:=.type "range",data:=.fields #[.int lo t,.int hi u,.int 1 v] },toks:=tk }:=I.kept fun b o e=>Heap.get?_push_of_some _ e
 refine ⟨(s.heap.push { cls:=.type "range",data:=.fields #[.int lo t,.int hi u,.int 1 v] }).objs.size,[(s.heap.push { cls:=.type "range",data:=.fields #[.int lo t,.int hi u,.int 1 v] }).objs.size],_,_,H,rfl,
  I1.kept (t':=tk) fun b o e=>Heap.get?_push_of_some _ e,Va4 _ lo (hi - lo).toNat,?_,fun b hb=>?_,q⟩
 ·have e1:lo + ((0:Nat):Int) * 1=lo:=by simp
  have e2:(((hi - lo).toNat:Nat):Int) - ((0:Nat):Int)=Builtin.Range.rangeSize lo hi 1:=by rw [rangeSize_one]; split <;> omega
  show IsRangeIter _ _ (lo + ((0:Nat):Int) * 1) ((((hi - lo).toNat:Nat):Int) - ((0:Nat):Int)) 1
  rw [e1,e2]
  exact Heap.get?_push_size _ rfl
 ·have e:b=(s.heap.push { cls:=.type "range",data:=.fields #[.int lo t,.int hi u,.int 1 v] }).objs.size:=by simpa using hb
  subst e
  exact I1.fpOk (Nat.le_refl _) (I1.hok.fresh (Nat.le_refl _))
noncomputable def iRng1 (ta:TA):TI:=fun σ H R=>ta σ H fun vs H1=>∃ j:Int,vs=[.int j]/\-(2 ^ 62)<=j/\j < 2 ^ 62/\R (Itr 0 j.toNat) H1
theorem Wbh {a:Expr} {ta:TA} {p pos:Pos} (hg:Gl X "range") (hm:X.mg "range" = none) (ha:PA X [a] ta) (hs:starEach [a] X.env=[(false,eval a X.env)]:=by rfl):PI X tg (.Call (.Name "range" p) [a] [] pos) (iRng1 ta):=by
 intro pins s σ H R I h
 refine Call_ (Waz I hg hm boot_range (PyProof.Rows.callWith_type1 (thn (ha pos pins s σ H _ I h) fun us s1 ⟨vs,H1,I1,r1,q1⟩=>?_) hs rfl))
 obtain ⟨j,e,q1,q2,q⟩:=q1
 subst e
 cases r1 with
 | cons r rr =>
  cases rr
  obtain ⟨t,rfl⟩:=r
  exact call_range_1 (Wb3 I1 (by omega) (by omega) q1 q2 (by simpa using q))
noncomputable def tFor (wi:TI) (g:TG) (tb:TS):TS:=fun D σ H=>wi σ H fun J H1=>∃ W:Nat->Nat->St->Hp->Prop,(∃ m,W 0 m σ H1)/\∀ i m σ H,W i m σ H ->
 (J.stop i H/\D.nx σ H)∨(J.go i H/\∃ N:St->Hp->Prop,(∀ σ' H',N σ' H'->∃ m',m' < m/\W (i + 1) m' σ' H')/\∀ x H',J.yld i H x H'->g x σ H' fun σ2 H2=>tb { D with nx:=N,ct:=N,bk:=D.nx } σ2 H2)
noncomputable def Vag (fp:List Addr) (h:Heap):List (Addr×Obj):=fp.filterMap fun b=>(h.get? b).map fun o=>(b,o)
theorem Yp {fp:List Addr} {h:Heap} {b:Addr} {o:Obj} (hb:b∈fp) (e:h.get? b=some o):(b,o)∈Vag fp h:=List.mem_filterMap.mpr ⟨b,hb,by rw [e]; rfl⟩
theorem Ybk {fp:List Addr} {h:Heap} {p:Addr×Obj} (hp:p∈Vag fp h):p.1∈fp/\h.get? p.1=some p.2:=by
 obtain ⟨b,hb,e⟩:=List.mem_filterMap.mp hp
 cases q:h.get? b with
 | none=>rw [q] at e; cases e
 | some o =>
  rw [q] at e
  have e':(b,o)=p:=Option.some.inj e
  subst e'
  exact ⟨hb,q⟩
theorem Inv.pinned {pins:List (Addr×Obj)} {σ:St} {H:Hp} {s:Shared} {fp:List Addr} (I:Inv X pins σ H s) (hf:∀ b∈fp,FpOk X pins H b) (ho:∀ b∈fp,∃ o,s.heap.get? b=some o/\∀ v,o.data≠.cell v):Inv X (pins ++ Vag fp s.heap) σ H s :=
 I.pins_of fun p hp=>(List.mem_append.mp hp).elim (fun z=>I.pin p (List.mem_append_right _ z)) fun z=>by
  obtain ⟨hb,e⟩:=Ybk z
  obtain ⟨f0,f1,f2,_⟩:=hf p.1 hb
  obtain ⟨o,e',d⟩:=ho p.1 hb
  rw [e] at e'; cases e'
  exact ⟨e,f0,f1,f2,d⟩
theorem Inv.unpinned {pins pl:List (Addr×Obj)} {σ:St} {H:Hp} {s:Shared} (I:Inv X (pins ++ pl) σ H s):Inv X pins σ H s:=I.pins_of fun p hp=>I.pin p (List.mem_append_right _ (List.mem_append_left _ hp))
theorem ps_for {iter:Expr} {body:List Stmt} {wi:TI} {g:TG} {tb:TS} {pos:Pos} (hp:PassesOwn (model X.prog X.w) X.A X.env X.xe) (hc:X.calm=true) (hi:PI X tg iter wi) (hg:PG X tg g) (hb:PSs X body tb)
  (hs:∀ x,foldedSetIterable iter X.env x=pure x:=by intro _; rfl):PS X (.For tg iter body [] pos) (tFor wi g tb):=by
 intro pins s σ H D I h
 refine wpAny_For (thn (hi pins s σ H _ I h) fun v s1 h1=>thn h1 fun itv s2 h2=>?_) hs
 obtain ⟨it,fp,tn,J,H2,e,I2,T,st2,f2,W,⟨m0,w0⟩,turn⟩:=h2
 subst e
 have stat:∀ {H':Hp},(∀ b∈fp,H' b=none)->∀ b∈fp,FpOk X pins H' b:=fun hn b hb=>⟨hn b hb,(f2 b hb).2⟩
 refine codeAny_forLoop_any (fun n s'=>∃ i σ' H',Inv X pins σ' H' s'/\tn i s'.heap/\(∀ b∈fp,H' b=none)/\W i n σ' H') ?_ m0 ⟨0,σ,H2,I2,st2,fun b hb=>(f2 b hb).1,w0⟩
 rintro n s3 ⟨i,σ3,H3,I3,st3,fr3,w3⟩
 rcases turn i n σ3 H3 w3 with ⟨stop,qn⟩ | ⟨go,N,hN,step⟩
 ·refine wpAny_passesOwn hp (thn (T.done X rfl rfl rfl rfl i pins s3 σ3 H3 X.xe I3 (stat fr3) st3 stop) fun r s4 ⟨hr,I4⟩=>?_)
  subst hr
  exact wpAny_execs_nil ⟨σ3,H3,I4,qn⟩
 ·refine wpAny_passesOwn hp (thn (T.item X rfl rfl rfl rfl i pins s3 σ3 H3 X.xe I3 (stat fr3) st3 go) fun r s4 ⟨u,hr,h4⟩=>?_)
  subst hr
  refine wpAny_passesOwn hp (thn h4 fun _ s5 ⟨x,H5,I5,r5,y5,st5,fr5⟩=>?_)
  have I5':=I5.pinned (stat fr5) (T.obj _ _ st5)
  refine wpAny_passesOwn hp (thn (hg _ s5 σ3 H5 x u _ I5' r5 (step x H5 y5)) fun _ s6 ⟨σ6,H6,I6,q6⟩=>?_)
  refine wpAny_passesOwn hp (thn (hb _ s6 σ6 H6 _ I6 q6) fun f s7 q7=>?_)
  have again:∀ {σ7:St} {H7:Hp},Inv X (pins ++ Vag fp s5.heap) σ7 H7 s7->N σ7 H7->∃ m,m < n/\∃ i σ' H',Inv X pins σ' H' s7/\tn i s7.heap/\(∀ b∈fp,H' b=none)/\W i m σ' H':=fun {σ7 H7} I7 n7=>by
   obtain ⟨m',hm,w7⟩:=hN σ7 H7 n7
   refine ⟨m',hm,i + 1,σ7,H7,I7.unpinned,T.keep _ _ _ st5 fun b hb o e=>(I7.pin (b,o) (List.mem_append_right _ (List.mem_append_right _ (Yp hb e)))).1,fun b hb=>?_,w7⟩
   obtain ⟨o,e,d⟩:=T.obj _ _ st5 b hb
   exact (I7.pin (b,o) (List.mem_append_right _ (List.mem_append_right _ (Yp hb e)))).2.1
  cases f with
  | next=>obtain ⟨σ7,H7,I7,n7⟩:=q7; exact again I7 n7
  | cont=>obtain ⟨σ7,H7,I7,n7⟩:=q7; exact again I7 n7
  | brk=>obtain ⟨σ7,H7,I7,q7⟩:=q7; exact ⟨σ7,H7,I7.unpinned,q7⟩
  | ret v=>obtain ⟨x7,σ7,H7,I7,r7,q7⟩:=q7; exact ⟨x7,σ7,H7,I7.unpinned,r7,q7⟩
end
end L2
namespace L2
open PySem PySem.Spec PyProof.Rows
noncomputable abbrev R2:=V->V->Hp->VK->Prop
noncomputable def OpR (X:Cx) (f:Value->Value->Sem Value) (r:R2):Prop :=
 ∀ (pins:List (Addr×Obj)) (s:Shared) (σ:St) (H:Hp) (x y:V) (v u:Value) (Q:VK),Inv X pins σ H s->RelV x v->RelV y u->r x y H Q ->
  wpAny (model X.prog X.w) X.A (f v u) (EP X pins σ Q) X.xe s
noncomputable def UnR (X:Cx) (f:Value->Sem Value) (r:V->Hp->VK->Prop):Prop :=
 ∀ (pins:List (Addr×Obj)) (s:Shared) (σ:St) (H:Hp) (x:V) (v:Value) (Q:VK),Inv X pins σ H s->RelV x v->r x H Q ->
  wpAny (model X.prog X.w) X.A (f v) (EP X pins σ Q) X.xe s
noncomputable def CallR (X:Cx) (f:Value) (r:List V->Hp->VK->Prop):Prop :=
 ∀ (pins:List (Addr×Obj)) (s:Shared) (σ:St) (H:Hp) (xs:List V) (us:List Value) (Q:VK),Inv X pins σ H s->Vals xs us->r xs H Q ->
  wpAny (model X.prog X.w) X.A (call f us) (EP X pins σ Q) X.xe s
noncomputable def TruR (X:Cx) (r:V->Hp->(Bool->Hp->Prop)->Prop):Prop :=
 ∀ (pins:List (Addr×Obj)) (s:Shared) (σ:St) (H:Hp) (x:V) (v:Value) (Q:Bool->Hp->Prop),Inv X pins σ H s->RelV x v->r x H Q ->
  wpAny (model X.prog X.w) X.A (truthy v) (TP X pins σ Q) X.xe s
noncomputable def tOp (r:R2) (ta tb:TE):TE:=fun σ H Q=>ta σ H fun x H1=>tb σ H1 fun y H2=>r x y H2 Q
noncomputable def tUn (r:V->Hp->VK->Prop) (ta:TE):TE:=fun σ H Q=>ta σ H fun x H1=>r x H1 Q
noncomputable def rI (C:Int->Int->Prop) (g:Int->Int->V):R2:=fun x y H Q=>∃ i j,x = .int i/\y = .int j/\C i j/\Q (g i j) H
noncomputable def rI0 (g:Int->Int->V):R2:=fun x y H Q=>∃ i j,x = .int i/\y = .int j/\Q (g i j) H
noncomputable def rU (g:Int->V):V->Hp->VK->Prop:=fun x H Q=>∃ i,x = .int i/\Q (g i) H
section
variable {X:Cx} {a b c:Expr} {ta tb tc:TE} {pos:Pos}
theorem binT (ha:PE X a ta) (hb:PE X b tb) {pins:List (Addr×Obj)} {s:Shared} {σ:St} {H:Hp} {R:V->V->Hp->Prop} (I:Inv X pins σ H s)
  (h:ta σ H fun x H1=>tb σ H1 fun y H2=>R x y H2) {Q:Value->Shared->Prop} {f:Value->Value->Sem Value}
  (hf:∀ v u s2 x y H2,Inv X pins σ H2 s2->RelV x v->RelV y u->R x y H2->wpAny (model X.prog X.w) X.A (f v u) Q X.xe s2) :
  wpAny (model X.prog X.w) X.A (eval a X.env) (fun v s₁=>wpAny (model X.prog X.w) X.A (eval b X.env) (fun u s₂=>wpAny (model X.prog X.w) X.A (f v u) Q X.xe s₂) X.xe s₁) X.xe s:=by
 refine thn (ha pins s σ H _ I h) fun v s1 ⟨x,H1,I1,r1,q1⟩=>?_
 refine thn (hb pins s1 σ H1 _ I1 q1) fun u s2 ⟨y,H2,I2,r2,q2⟩=>?_
 exact hf v u s2 x y H2 I2 r1 r2 q2
theorem pe_op {op:Operator} {r:R2} (ho:OpR X (binaryOp op) r) (ha:PE X a ta) (hb:PE X b tb):PE X (.BinOp a op b pos) (tOp r ta tb):=by
 intro pins s σ H Q I h
 exact wpAny_BinOp (binT ha hb I h fun v u s2 x y H2 I2 rx ry q=>ho pins s2 σ H2 x y v u Q I2 rx ry q)
theorem pe_un {op:UnaryOp} {r:V->Hp->VK->Prop} (ho:UnR X (unaryOp op) r) (ha:PE X a ta):PE X (.UnaryOp op a pos) (tUn r ta):=by
 intro pins s σ H Q I h
 exact UnaryOp_ (thn (ha pins s σ H _ I h) fun v s1 ⟨x,H1,I1,r1,q1⟩=>ho pins s1 σ H1 x v Q I1 r1 q1)
theorem opI {f:Value->Value->Sem Value} {C:Int->Int->Prop} {g:Int->Int->Int}
  (rule:∀ (i j:Int) (t u:Tok) (s:Shared) (Q:Value->Shared->Prop) (E:Value->Shared->Prop),C i j->Q (.int (g i j) s.toks) { s with toks:=s.toks + 1 }->wpAny (model X.prog X.w) X.A (f (.int i t) (.int j u)) Q E s) :
  OpR X f (rI C fun i j=>.int (g i j)):=by
 intro pins s σ H x y v u Q I rx ry h
 obtain ⟨i,j,rfl,rfl,hc,q⟩:=h
 obtain ⟨t,rfl⟩:=rx
 obtain ⟨t',rfl⟩:=ry
 exact rule i j t t' s _ _ hc ⟨.int (g i j),H,I.tok _,⟨_,rfl⟩,q⟩
theorem opI0 {f:Value->Value->Sem Value} {g:Int->Int->Int}
  (rule:∀ (i j:Int) (t u:Tok) (s:Shared) (Q:Value->Shared->Prop) (E:Value->Shared->Prop),Q (.int (g i j) s.toks) { s with toks:=s.toks + 1 }->wpAny (model X.prog X.w) X.A (f (.int i t) (.int j u)) Q E s) :
  OpR X f (rI0 fun i j=>.int (g i j)):=by
 intro pins s σ H x y v u Q I rx ry h
 obtain ⟨i,j,rfl,rfl,q⟩:=h
 obtain ⟨t,rfl⟩:=rx
 obtain ⟨t',rfl⟩:=ry
 exact rule i j t t' s _ _ ⟨.int (g i j),H,I.tok _,⟨_,rfl⟩,q⟩
theorem opB0 {f:Value->Value->Sem Value} {g:Int->Int->Bool}
  (rule:∀ (i j:Int) (t u:Tok) (s:Shared) (Q:Value->Shared->Prop) (E:Value->Shared->Prop),Q (.bool (g i j)) s->wpAny (model X.prog X.w) X.A (f (.int i t) (.int j u)) Q E s) :
  OpR X f (rI0 fun i j=>.bl (g i j)):=by
 intro pins s σ H x y v u Q I rx ry h
 obtain ⟨i,j,rfl,rfl,q⟩:=h
 obtain ⟨t,rfl⟩:=rx
 obtain ⟨t',rfl⟩:=ry
 exact rule i j t t' s _ _ ⟨.bl (g i j),H,I,rfl,q⟩
noncomputable def CPow (i j:Int):Prop:=0<=j/\j<=1000000/\i.natAbs < 2 ^ 64
noncomputable def CMul (i j:Int):Prop:=(-(2 ^ 64) < i/\i < 2 ^ 64)∨(-(2 ^ 64) < j/\j < 2 ^ 64)
theorem CMul.ok {i j:Int} (h:CMul i j):IntMulOk i j:=by
 rcases h with ⟨h1,h2⟩ | ⟨h1,h2⟩
 ·exact .of_left (intBits_le_64 h1 h2)
 ·exact .of_right (intBits_le_64 h1 h2)
theorem op_add:OpR X (binaryOp .Add) (rI0 fun i j=>.int (i + j)):=opI0 fun _ _ _ _ _ _ _ q=>add_int q
theorem op_sub:OpR X (binaryOp .Sub) (rI0 fun i j=>.int (i - j)):=opI0 fun _ _ _ _ _ _ _ q=>sub_int q
theorem op_mul:OpR X (binaryOp .Mult) (rI CMul fun i j=>.int (i * j)):=opI fun _ _ _ _ _ _ _ hc q=>mul_int q hc.ok
theorem op_mod:OpR X (binaryOp .Mod) (rI (fun _ j=>0 < j) fun i j=>.int (i % j)):=opI fun i j _ _ _ _ _ hc q=>by
 have h1:(0:Int) < j:=hc
 exact mod_int' (by omega) (by rw [Int.fmod_eq_emod_of_nonneg i (by omega)]; exact q)
theorem op_pow:OpR X (binaryOp .Pow) (rI CPow fun i j=>.int (i ^ j.toNat)):=opI fun _ _ _ _ _ _ _ hc q=>pow_int_small hc.1 hc.2.1 hc.2.2 q
theorem unI {f:Value->Sem Value} {g:Int->Int}
  (rule:∀ (i:Int) (t:Tok) (s:Shared) (Q:Value->Shared->Prop) (E:Value->Shared->Prop),Q (.int (g i) s.toks) { s with toks:=s.toks + 1 }->wpAny (model X.prog X.w) X.A (f (.int i t)) Q E s) :
  UnR X f (rU fun i=>.int (g i)):=by
 intro pins s σ H x v Q I rx h
 obtain ⟨i,rfl,q⟩:=h
 obtain ⟨t,rfl⟩:=rx
 exact rule i t s _ _ ⟨.int (g i),H,I.tok _,⟨_,rfl⟩,q⟩
theorem un_neg:UnR X (unaryOp .USub) (rU fun i=>.int (-i)):=unI fun _ _ _ _ _ q=>neg_int q
end
section
variable {X:Cx} {a b c:Expr} {ta tb tc:TE} {pos:Pos}
theorem Vaj {pins:List (Addr×Obj)} {σ:St} {H:Hp} {s:Shared} {Q:VK} {k k':Bool} (I:Inv X pins σ H s) (q:Q (.bl k) H) (e:k=k'):EP X pins σ Q (.bool k') s:=by
 subst e
 exact ⟨.bl k,H,I,rfl,q⟩
theorem op_lt:OpR X (compareOp .Lt) (rI0 fun i j=>.bl (decide (i < j))):=opB0 fun _ _ _ _ _ _ _ q=>lt_int q
theorem op_le:OpR X (compareOp .LtE) (rI0 fun i j=>.bl (decide (i<=j))):=opB0 fun _ _ _ _ _ _ _ q=>le_int q
theorem op_gt:OpR X (compareOp .Gt) (rI0 fun i j=>.bl (decide (j < i))):=opB0 fun _ _ _ _ _ _ _ q=>gt_int q
theorem op_ge:OpR X (compareOp .GtE) (rI0 fun i j=>.bl (decide (j<=i))):=opB0 fun _ _ _ _ _ _ _ q=>ge_int q
theorem Vbj:OpR X (compareOp .Lt) (fun x y H Q=>∃ i j,x = .str i/\y = .str j/\Q (.bl (decide (i.cps.toList < j.cps.toList))) H):=by
 intro pins s σ H x y v u Q I rx ry h
 obtain ⟨i,j,rfl,rfl,q⟩:=h
 obtain ⟨t,rfl⟩:=rx
 obtain ⟨t',rfl⟩:=ry
 exact lt_str (Vaj I q rfl)
theorem Zbk:OpR X (compareOp .In) (fun x y H Q=>∃ i j,x = .str i/\y = .str j/\Q (.bl (!(Builtin.Str.occurrences j i 0 j.length 1).isEmpty)) H):=by
 intro pins s σ H x y v u Q I rx ry h
 obtain ⟨i,j,rfl,rfl,q⟩:=h
 obtain ⟨t,rfl⟩:=rx
 obtain ⟨t',rfl⟩:=ry
 exact in_str (Vaj I q rfl)
theorem op_isN:OpR X (compareOp .Is) (fun x y H Q=>y = .non/\Q (.bl (decide (x = .non))) H):=by
 intro pins s σ H x y v u Q I rx ry h
 obtain ⟨rfl,q⟩:=h
 cases ry
 refine is_none_gen (Vaj I q ?_)
 cases x <;> first
  | (cases rx; rfl)
  | (obtain ⟨t,rfl⟩:=rx; rfl)
theorem op_notN:OpR X (compareOp .IsNot) (fun x y H Q=>y = .non/\Q (.bl (!decide (x = .non))) H):=by
 intro pins s σ H x y v u Q I rx ry h
 obtain ⟨rfl,q⟩:=h
 cases ry
 refine isnot_none_gen (Vaj I q ?_)
 cases x <;> first
  | (cases rx; rfl)
  | (obtain ⟨t,rfl⟩:=rx; rfl)
theorem Yah:OpR X (compareOp .NotIn) (fun x y H Q=>∃ i j,x = .str i/\y = .str j/\Q (.bl (!(!(Builtin.Str.occurrences j i 0 j.length 1).isEmpty))) H):=by
 intro pins s σ H x y v u Q I rx ry h
 obtain ⟨i,j,rfl,rfl,q⟩:=h
 obtain ⟨t,rfl⟩:=rx
 obtain ⟨t',rfl⟩:=ry
 exact notIn_str (Vaj I q rfl)
theorem OpR.or {f:Value->Value->Sem Value} {r r':R2} (h:OpR X f r) (h':OpR X f r'):OpR X f (fun x y H Q=>r x y H Q∨r' x y H Q):=by
 intro pins s σ H x y v u Q I rx ry q
 rcases q with q | q
 ·exact h pins s σ H x y v u Q I rx ry q
 ·exact h' pins s σ H x y v u Q I rx ry q
theorem nomark (b:Expr) {op:CmpOp} (h:op≠.In:=by decide) (h2:op≠.NotIn:=by decide):behindInMarks op b=false:=by
 have e1:(op == CmpOp.In)=false:=by cases op <;> first | rfl | exact absurd rfl h
 have e2:(op == CmpOp.NotIn)=false:=by cases op <;> first | rfl | exact absurd rfl h2
 cases b <;> simp [behindInMarks,e1,e2]
theorem pe_cmpR {op:CmpOp} {r:R2} (ho:OpR X (compareOp op) r) (ha:PE X a ta) (hb:PE X b tb) (hm:behindInMarks op b=false):PE X (.Compare a [op] [b] pos) (tOp r ta tb):=by
 intro pins s σ H Q I h
 exact wpAny_Compare1 (binT ha hb I h fun v u s2 x y H2 I2 rx ry q=>ho pins s2 σ H2 x y v u Q I2 rx ry q) hm
noncomputable def Xb1 (t:TE):TT:=fun σ H Q=>t σ H fun x H'=>∃ k,x = .bl k/\Q k H'
theorem pt_cmpR {op:CmpOp} {r:R2} (ho:OpR X (compareOp op) r) (ha:PE X a ta) (hb:PE X b tb) (hm:behindInMarks op b=false):PT X (.Compare a [op] [b] pos) (Xb1 (tOp r ta tb)):=by
 intro pins s σ H Q I h
 refine wpAny_isTrue_Compare1 (thn (ha pins s σ H _ I h) fun v s1 ⟨x,H1,I1,r1,q1⟩=>thn (hb pins s1 σ H1 _ I1 q1) fun u s2 ⟨y,H2,I2,r2,q2⟩ =>
  thn (ho pins s2 σ H2 x y v u _ I2 r1 r2 q2) fun c s3 ⟨z,H3,I3,r3,k,e,q3⟩=>?_) hm
 subst e
 cases r3
 exact wpAny_truthy_bool ⟨H3,I3,q3⟩
noncomputable def Vaw (r r':R2) (ta tb tc:TE):TE:=fun σ H Q=>ta σ H fun x H1=>tb σ H1 fun y H2=>r x y H2 fun z H3=>∃ k,z = .bl k /\
 (if k=true then tc σ H3 fun w' H4=>r' y w' H4 Q else Q (.bl false) H3)
theorem Xb7 {op op':CmpOp} {r r':R2} (ho:OpR X (compareOp op) r) (ho':OpR X (compareOp op') r') (ha:PE X a ta) (hb:PE X b tb) (hc:PE X c tc)
  (hm:lastMarks [op,op'] [b,c]=false:=by with_unfolding_all rfl):PE X (.Compare a [op,op'] [b,c] pos) (Vaw r r' ta tb tc):=by
 intro pins s σ H Q I h
 refine Compare_chain (thn (ha pins s σ H _ I h) fun v s1 ⟨x,H1,I1,r1,q1⟩=>chain_link (thn (hb pins s1 σ H1 _ I1 q1) fun u s2 ⟨y,H2,I2,r2,q2⟩ =>
  thn (ho pins s2 σ H2 x y v u _ I2 r1 r2 q2) fun d s3 ⟨z,H3,I3,r3,k,e,q3⟩=>?_)) hm
 subst e
 cases r3
 refine wpAny_truthy_bool ?_
 cases k with
 | false=>exact ite_ff ⟨.bl false,H3,I3,rfl,q3⟩
 | true=>exact ite_tt (chain_last (thn (hc pins s3 σ H3 _ I3 q3) fun w' s4 ⟨z',H4,I4,r4,q4⟩=>ho' pins s4 σ H4 y z' u w' Q I4 r2 r4 q4))
theorem Xb4 {op op':CmpOp} {r r':R2} (ho:OpR X (compareOp op) r) (ho':OpR X (compareOp op') r') (ha:PE X a ta) (hb:PE X b tb) (hc:PE X c tc)
  (hm:lastMarks [op,op'] [b,c]=false:=by with_unfolding_all rfl):PT X (.Compare a [op,op'] [b,c] pos) (Xb1 (Vaw r r' ta tb tc)):=by
 intro pins s σ H Q I h
 refine isTrue_chain (thn (ha pins s σ H _ I h) fun v s1 ⟨x,H1,I1,r1,q1⟩=>test_link (thn (hb pins s1 σ H1 _ I1 q1) fun u s2 ⟨y,H2,I2,r2,q2⟩ =>
  thn (ho pins s2 σ H2 x y v u _ I2 r1 r2 q2) fun d s3 ⟨z,H3,I3,r3,k,e,q3⟩=>?_)) hm
 subst e
 cases r3
 refine wpAny_truthy_bool ?_
 cases k with
 | false =>
  obtain ⟨k',e',q'⟩:=q3
  cases e'
  exact ite_ff ⟨H3,I3,q'⟩
 | true =>
  refine ite_tt (test_last (thn (hc pins s3 σ H3 _ I3 q3) fun w' s4 ⟨z',H4,I4,r4,q4⟩=>thn (ho' pins s4 σ H4 y z' u w' _ I4 r2 r4 q4) fun d' s5 ⟨z2,H5,I5,r5,k2,e2,q5⟩=>?_))
  subst e2
  cases r5
  exact wpAny_truthy_bool ⟨H5,I5,q5⟩
noncomputable def TruV (K:PySem.W.Frag) (x:V) (H:Hp) (k:Bool):Prop :=
 match x with
 | .non=>k=false
 | .bl b=>k=b
 | .int i=>k=(i != 0)
 | .str y=>y.length<=sizeLine/\k=((y.length:Int) != 0)
 | .byt y=>y.size<=sizeLine/\k=((y.size:Int) != 0)
 | .ref p=>(∃ xs,SqL K H p xs/\k = !xs.isEmpty)∨(∃ xs,SqT K H p xs/\k = !xs.isEmpty)∨∃ kvs,H p=some (.dK kvs)/\k = !kvs.isEmpty
 | _=>False
theorem Xa8 {κ:Type} {kvs:List (κ×V)} {vs:List (κ×Value)} (r:KV kvs vs):(!vs.isEmpty) = !kvs.isEmpty:=by
 cases r <;> rfl
theorem Z8 {xs:List V} {its:List Value} (r:Vals xs its):(!its.toArray.isEmpty) = !xs.isEmpty:=by
 cases r <;> simp
theorem V0:(sizeLine:Nat) < 2 ^ 63:=by rw [sizeLine_eq]; decide
theorem tru_ok:TruR X (fun x H Q=>∃ k,TruV X.K x H k/\Q k H):=by
 intro pins s σ H x v Q I rx h
 obtain ⟨k,e,q⟩:=h
 have hl:=V0
 have hs:sizeLine=16777216:=sizeLine_eq
 cases x with
 | non =>
  cases rx
  have e':k=false:=e
  subst e'
  exact truthy_none ⟨H,I,q⟩
 | bl b =>
  cases rx
  have e':k=b:=e
  subst e'
  exact wpAny_truthy_bool ⟨H,I,q⟩
 | int i =>
  obtain ⟨t,rfl⟩:=rx
  have e':k=(i != 0):=e
  subst e'
  exact PySem.P.truthy_int ⟨H,I,q⟩
 | str y =>
  obtain ⟨t,rfl⟩:=rx
  obtain ⟨hy,e'⟩:y.length<=sizeLine/\k=((y.length:Int) != 0):=e
  subst e'
  exact PySem.P.truthy_str (by omega) ⟨H,I.tok _,q⟩
 | byt y =>
  obtain ⟨t,rfl⟩:=rx
  obtain ⟨hy,e'⟩:y.size<=sizeLine/\k=((y.size:Int) != 0):=e
  subst e'
  exact PySem.W.truthy_bytes (by omega) ⟨H,I.tok _,q⟩
 | ref p =>
  cases rx
  have e':(∃ xs,SqL X.K H p xs/\k = !xs.isEmpty)∨(∃ xs,SqT X.K H p xs/\k = !xs.isEmpty)∨∃ kvs,H p=some (.dK kvs)/\k = !kvs.isEmpty:=e
  rcases e' with ⟨xs,hx,e'⟩ | ⟨xs,hx,e'⟩ | ⟨kvs,hx,e'⟩
  ·subst e'
   obtain ⟨its,r,pl,hz⟩:=I.list hx
   have hlen:=r.length
   exact wpAny_truthy_list pl.isList (by simp only [List.size_toArray]; omega) ⟨H,I.tok _,by rw [Z8 r]; exact q⟩
  ·subst e'
   obtain ⟨its,r,pl,hz⟩:=I.tuple hx
   have hlen:=r.length
   exact truthy_tuple pl (by simp only [List.size_toArray]; omega) ⟨H,I.tok _,by rw [Z8 r]; exact q⟩
  ·subst e'
   obtain ⟨hz,hS,vs,r,m⟩:kvs.length<=sizeLine/\(p == sysModules)=false/\∃ vs,KV kvs vs/\s.heap.DictOf (Ve X.prog X.w) p vs:=I.hok p _ hx
   have hlen:kvs.length=vs.length:=Paired.length r
   exact wpAny_truthy_dict hS m (by omega) ⟨H,I.tok _,by rw [Xa8 r]; exact q⟩
 | _=>exact (show False from e).elim
theorem Wax (ha:PE X a ta) (he:∀ whole,isTrue a X.env whole=(do let v <- whole; standAt a.pos; holding [v] (truthy v))) :
  PT X a (fun σ H Q=>ta σ H fun x H'=>∃ k,TruV X.K x H' k/\Q k H'):=by
 intro pins s σ H Q I h
 exact isTrue_plain (thn (ha pins s σ H _ I h) fun v s1 ⟨x,H1,I1,r1,q1⟩=>tru_ok pins s1 σ H1 x v Q I1 r1 q1) (he _)
theorem Wa6:OpR X (binaryOp .Add) (fun x y H Q=>∃ i j,x = .str i/\y = .str j/\i.length + j.length<=sizeLine/\Q (.str (i ++ j)) H):=by
 intro pins s σ H x y v u Q I rx ry h
 obtain ⟨i,j,rfl,rfl,hz,q⟩:=h
 obtain ⟨t,rfl⟩:=rx
 obtain ⟨t',rfl⟩:=ry
 exact add_str (fun t' tk=>⟨.str (i ++ j),H,I.tok _,⟨_,rfl⟩,q⟩) hz
theorem vals1 {x:V} {us:List Value} (r:Vals [x] us):∃ u,us=[u]/\RelV x u:=by
 cases r with
 | cons r1 r2=>cases r2; exact ⟨_,rfl,r1⟩
theorem vals2 {x y:V} {us:List Value} (r:Vals [x,y] us):∃ u w',us=[u,w']/\RelV x u/\RelV y w':=by
 cases r with
 | cons r1 r2 =>
  cases r2 with
  | cons r3 r4=>cases r4; exact ⟨_,_,rfl,r1,r3⟩
theorem Ybv (hc:X.calm=true):CallR X (.builtin "max") (fun xs H Q=>∃ i j,xs=[.int i,.int j]/\Q (.int (if j > i then j else i)) H):=by
 intro pins s σ H xs us Q I r h
 obtain ⟨i,j,rfl,q⟩:=h
 obtain ⟨u,w',rfl,⟨t,rfl⟩,⟨t',rfl⟩⟩:=vals2 r
 refine max_two_ints (I.ok.hd hc) fun h' tk k=>⟨_,H,I.kept k,?_,q⟩
 by_cases hj:j > i
 ·rw [if_pos hj,if_pos hj]; exact ⟨_,rfl⟩
 ·rw [if_neg hj,if_neg hj]; exact ⟨_,rfl⟩
theorem Vbu (hc:X.calm=true):CallR X (.builtin "min") (fun xs H Q=>∃ i j,xs=[.int i,.int j]/\Q (.int (if j < i then j else i)) H):=by
 intro pins s σ H xs us Q I r h
 obtain ⟨i,j,rfl,q⟩:=h
 obtain ⟨u,w',rfl,⟨t,rfl⟩,⟨t',rfl⟩⟩:=vals2 r
 refine min_two_ints (I.ok.hd hc) fun h' tk k=>⟨_,H,I.kept k,?_,q⟩
 by_cases hj:j < i
 ·rw [if_pos hj,if_pos hj]; exact ⟨_,rfl⟩
 ·rw [if_neg hj,if_neg hj]; exact ⟨_,rfl⟩
theorem Wak:CallR X (.type "int") (fun xs H Q=>(∃ i,xs=[.int i]/\Q (.int i) H)∨∃ k,xs=[.bl k]/\Q (.int (if k then 1 else 0)) H):=by
 intro pins s σ H xs us Q I r h
 rcases h with ⟨i,rfl,q⟩ | ⟨k,rfl,q⟩
 ·obtain ⟨u,rfl,t,rfl⟩:=vals1 r
  exact call_int_int ⟨.int i,H,I,⟨_,rfl⟩,q⟩
 ·obtain ⟨u,rfl,r1⟩:=vals1 r
  cases r1
  exact call_int_bool ⟨.int (if k then 1 else 0),H,I.tok _,⟨_,rfl⟩,q⟩
noncomputable def LenV (K:PySem.W.Frag) (x:V) (H:Hp) (n:Nat):Prop :=
 match x with
 | .str y=>y.length<=sizeLine/\n=y.length
 | .byt y=>y.size<=sizeLine/\n=y.size
 | .ref p=>(∃ xs,SqL K H p xs/\n=xs.length)∨∃ xs,SqT K H p xs/\n=xs.length
 | _=>False
theorem call_len:CallR X (.builtin "len") (fun xs H Q=>∃ x n,xs=[x]/\LenV X.K x H n/\Q (.int n) H):=by
 intro pins s σ H xs us Q I r h
 obtain ⟨x,n,rfl,e,q⟩:=h
 obtain ⟨u,rfl,rx⟩:=vals1 r
 have hl:=V0
 have hs:sizeLine=16777216:=sizeLine_eq
 cases x with
 | str y =>
  obtain ⟨t,rfl⟩:=rx
  obtain ⟨hy,e'⟩:y.length<=sizeLine/\n=y.length:=e
  subst e'
  exact len_str (by omega) ⟨.int _,H,I.tok _,⟨_,rfl⟩,q⟩
 | byt y =>
  obtain ⟨t,rfl⟩:=rx
  obtain ⟨hy,e'⟩:y.size<=sizeLine/\n=y.size:=e
  subst e'
  exact PySem.W.len_bytes (by omega) ⟨.int _,H,I.tok _,⟨_,rfl⟩,q⟩
 | ref p =>
  cases rx
  have e':(∃ xs,SqL X.K H p xs/\n=xs.length)∨∃ xs,SqT X.K H p xs/\n=xs.length:=e
  rcases e' with ⟨xs,hx,e'⟩ | ⟨xs,hx,e'⟩
  ·subst e'
   obtain ⟨its,r',pl,hz⟩:=I.list hx
   have hlen:=r'.length
   exact Calls.call_len_list pl.isList (by simp only [List.size_toArray]; omega) ⟨.int xs.length,H,I.tok _,⟨_,by simp only [List.size_toArray]; rw [hlen]⟩,q⟩
  ·subst e'
   obtain ⟨its,r',pl,hz⟩:=I.tuple hx
   have hlen:=r'.length
   exact len_tuple pl (by simp only [List.size_toArray]; omega) ⟨.int xs.length,H,I.tok _,⟨_,by simp only [List.size_toArray]; rw [hlen]⟩,q⟩
 | _=>exact (show False from e).elim
end
end L2
namespace L2
open PySem PySem.Spec PyProof.Rows
structure ObjM (h:Heap) (x dx C:Addr) (mA:Str->Option Value):Prop where
 obj:h.get? x=some (PySem.W.instObj C dx)
 ns:h.Ns1 dx mA
 ne:dx≠x
theorem Zbm {h:Heap} {dx:Addr} {mA:Str->Option Value} (n:h.Ns1 dx mA):∃ od,h.get? dx=some od/\∀ name,PySem.W.lookIn name od=some (mA name):=by
 obtain ⟨o,es,ep,ho,hd,hk,_,hm⟩:=n
 refine ⟨o,ho,fun name=>?_⟩
 have e:=hm name
 unfold nsFind findBy at e
 rw [<- Array.find?_toList] at e
 unfold PySem.W.lookIn
 rw [hd]
 dsimp only
 split
 ·rename_i y q
  rw [q] at e
  exact congrArg some e
 ·rename_i q
  rw [q] at e
  have a:es.toList.any (·.refKey)=false:=by
   rw [List.any_eq_false]
   intro y hy
   obtain ⟨z,t,hkey⟩:=hk y (Array.mem_toList_iff.mp hy)
   simp [DictEntry.refKey,hkey]
  have a':¬ es.toList.any (·.refKey)=true:=by rw [a]; exact Bool.false_ne_true
  rw [if_neg a']
  exact congrArg some e
theorem ObjM.look {h:Heap} {x dx C:Addr} {mA:Str->Option Value} (I:ObjM h x dx C mA):∃ od,PySem.W.InstAt h x (PySem.W.instObj C dx) C (some od)/\∀ name,PySem.W.lookIn name od=some (mA name) :=
 let ⟨od,ho,hl⟩:=Zbm I.ns
 ⟨od,⟨I.obj,rfl,rfl,ho⟩,hl⟩
section
variable {prog:Program} {w:World} {A:Around} {E:Value->Shared->Prop} {s:Shared} {K:PySem.W.Frag} {x dx C f:Addr} {mA:Str->Option Value} {name:Str} {v:Value}
end
section
variable {P:Program} {w:World} {H H':Hp} {h h':Heap} {a C dx:Addr} {fs fs':List (Str×V)}
theorem ins_get (hok:HOk P w H h) (e:H a=some (.ins C dx fs)):∃ mA,ObjM h a dx C mA/\(∀ f,RelO (fs.lookup f) (mA f))/\PySem.Within mA (fs.map (·.1))/\fs.length<=1000/\H dx=some (.own a):=by
 obtain ⟨d,z,ne,ob,mA,n,r,q⟩:=(show ObjOk P w H h a (.ins C dx fs) from hok a _ e)
 exact ⟨mA,⟨ob,n,ne⟩,r,q,z,d⟩
end
structure Cls (K:PySem.W.Frag) (C:Addr):Prop where
 pg:PySem.W.plainGet K C Str.empty=true
 hd:PySem.W.hasDictIn K C=true
 po:PySem.W.plainOver K C=true
 sa:PySem.W.findIn K (.ref C) "__setattr__" = some (some (.builtin "object.__setattr__"))
theorem Cls.get {K:PySem.W.Frag} {C:Addr} (c:Cls K C) (f:Str):PySem.W.plainGet K C f=true:=c.pg
noncomputable def Zan (K:PySem.W.Frag) (C:Addr) (f:Str):Prop:=PySem.W.findIn K (.ref C) f=some none
structure Meth (K:PySem.W.Frag) (C:Addr) (m:Str) (f:Addr):Prop where
 at_:PySem.W.findIn K (.ref C) m=some (some (.ref f))
 fn:PySem.W.isFn K (.ref f)=true
 kp:PySem.W.keepIn K (.ref f)=true
section
variable {X:Cx} {pins:List (Addr×Obj)} {σ:St} {H:Hp} {s:Shared} {a C dx:Addr} {fs:List (Str×V)} {f:Str} {v:V} {A:Around} {E:Value->Shared->Prop}
theorem Inv.made (I:Inv X pins σ H s):Inv X pins σ (upd (upd H s.heap.objs.size (.own (s.heap.objs.size + 1))) (s.heap.objs.size + 1) (.ins C s.heap.objs.size []))
  { s with heap:=(s.heap.push PySem.W.emptyDict).push (PySem.W.instObj C s.heap.objs.size) }:=by
 have e1:(s.heap.push PySem.W.emptyDict).get? s.heap.objs.size=some PySem.W.emptyDict:=Heap.get?_push_size s.heap rfl
 have e2:((s.heap.push PySem.W.emptyDict).push (PySem.W.instObj C s.heap.objs.size)).get? (s.heap.objs.size + 1)=some (PySem.W.instObj C s.heap.objs.size):=by
  have:=Heap.get?_push_size (s.heap.push PySem.W.emptyDict) (o:=PySem.W.instObj C s.heap.objs.size) rfl
  rwa [Heap.size_push] at this
 have e3:(s.heap.push PySem.W.emptyDict).Ns s.heap.objs.size (fun _=>none):=⟨PySem.W.emptyDict,#[],_,e1,rfl,(fun e he=>absurd he (by simp)),fun _=>rfl⟩
 have I1:=I.laid (a:=s.heap.objs.size) (o:=.own (s.heap.objs.size + 1)) (h':=s.heap.push PySem.W.emptyDict) (t':=s.toks) (fun b u q=>Heap.get?_push_of_some _ q) (Nat.le_refl _) ⟨_,e1⟩
 refine I1.laid (a:=s.heap.objs.size + 1) (o:=.ins C s.heap.objs.size []) (t':=s.toks) (fun b u q=>Heap.get?_push_of_some _ q) (Nat.le_of_eq (Heap.size_push _ _)) ?_
 have ne:s.heap.objs.size≠s.heap.objs.size + 1:=Nat.ne_of_lt (Nat.lt_succ_self _)
 refine ⟨by rw [Vb ne,Yc],Nat.zero_le _,ne,e2,fun _=>none,(Heap.Ns1.of_empty e3).at fun o q=>Heap.get?_push_of_some _ q,fun _=>True.intro,fun y hy=>absurd rfl hy⟩
end
section
variable {X:Cx} {o e value:Expr} {f:Str} {pos pos' tpos:Pos} {ta tv:TE}
end
section
variable {X:Cx} {pins:List (Addr×Obj)} {σ:St} {H:Hp} {s:Shared} {A:Around} {E:Value->Shared->Prop} {Q:Value->Shared->Prop} {c:Value} {b:Bool}
inductive TyOf (K:PySem.W.Frag) (H:Hp):V->Value->Prop where
 | non:TyOf K H .non (.type "NoneType")
 | bl (x:Bool):TyOf K H (.bl x) (.type "bool")
 | int (i:Int):TyOf K H (.int i) (.type "int")
 | str (x:Str):TyOf K H (.str x) (.type "str")
 | flt (x:UInt64):TyOf K H (.flt x) (.type "float")
 | lst {a:Addr} {xs:List V} (e:H a=some (.lst xs)):TyOf K H (.ref a) (.type "list")
 | frz {a:Addr} {o:Obj} {xs:List V} (e:H a=some (.frz o (.lst xs))):TyOf K H (.ref a) (.type "list")
 | tup {a:Addr} {xs:List V} (e:H a=some (.tup xs)):TyOf K H (.ref a) (.type "tuple")
 | dK {a:Addr} {kvs:List (Key×V)} (e:H a=some (.dK kvs)):TyOf K H (.ref a) (.type "dict")
 | dT {a:Addr} {kvs:List (List Key×V)} (e:H a=some (.dT kvs)):TyOf K H (.ref a) (.type "dict")
 | ins {a C dx:Addr} {fs:List (Str×V)} (e:H a=some (.ins C dx fs)) (cl:Cls K C) (ha:PySem.W.findIn K (.ref C) "__class__" = some (some (.builtin "object.__class__")))
   (hn:PySem.W.specialIn K (.builtin "object.__class__") "__get__" = some (some (.builtin "getset_descriptor.__get__"))) (htk:PySem.W.takesIn K (.builtin "object.__class__")=some true)
   (hm:PySem.W.mroIn K C (.type "object")=some true):TyOf K H (.ref a) (.ref C)
theorem Zbp {x:V} {u t:Value} (I:Inv X pins σ H s) (rx:RelV x u) (ty:TyOf X.K H x t) (e:PySem.W.kitOne X.K t c=some b) (h:∀ tk,Q (.bool b) { s with toks:=tk }) :
  wpAny (model X.prog X.w) A (call (.builtin "isinstance") [u,c]) Q E s:=by
 cases ty with
 | non=>cases (show u=Value.none from rx); exact PySem.W.kia_one PySem.W.kitx_none I.kIn True.intro e (fun z=>nomatch z) h
 | bl y=>cases (show u=Value.bool y from rx); exact PySem.W.kia_one PySem.W.kitx_bool I.kIn True.intro e (fun z=>nomatch z) h
 | int i=>obtain ⟨t,q⟩:=(show ∃ t,u=Value.int i t from rx); cases q; exact PySem.W.kia_one PySem.W.kitx_int I.kIn True.intro e (fun z=>nomatch z) h
 | str y=>obtain ⟨t,q⟩:=(show ∃ t,u=Value.str y t from rx); cases q; exact PySem.W.kia_one PySem.W.kitx_str I.kIn True.intro e (fun z=>nomatch z) h
 | flt y=>obtain ⟨t,q⟩:=(show ∃ t,u=Value.float y t from rx); cases q; exact PySem.W.kia_one PySem.W.kitx_float I.kIn True.intro e (fun z=>nomatch z) h
 | @lst a xs ea =>
  cases (show u=Value.ref a from rx)
  obtain ⟨_,_,n,_,h1⟩:=(show ObjOk X.prog X.w H s.heap a (.lst xs) from I.hok a _ ea)
  exact PySem.W.kia_one PySem.W.kitx_list I.kIn ⟨_,h1,rfl⟩ e (fun z=>nomatch z) h
 | @frz a ob xs ea =>
  cases (show u=Value.ref a from rx)
  obtain ⟨_,_,_,n,_,h1⟩:=(show ObjOk X.prog X.w H s.heap a (.frz ob (.lst xs)) from I.hok a _ ea)
  exact PySem.W.kia_one PySem.W.kitx_list I.kIn ⟨_,h1,rfl⟩ e (fun z=>nomatch z) h
 | @tup a xs ea =>
  cases (show u=Value.ref a from rx)
  obtain ⟨_,_,_,p⟩:=(show ObjOk X.prog X.w H s.heap a (.tup xs) from I.hok a _ ea)
  obtain ⟨o,h1,h2,_⟩:=p
  exact PySem.W.kia_one PySem.W.kitx_tuple I.kIn ⟨o,h1,h2⟩ e (fun z=>nomatch z) h
 | @dK a kvs ea =>
  cases (show u=Value.ref a from rx)
  obtain ⟨_,_,vs,_,p⟩:=(show ObjOk X.prog X.w H s.heap a (.dK kvs) from I.hok a _ ea)
  obtain ⟨o,es,ep,h1,h2,_⟩:=p
  exact PySem.W.kia_one PySem.W.kitx_dict I.kIn ⟨o,h1,h2.1⟩ e (fun z=>nomatch z) h
 | @dT a kvs ea =>
  cases (show u=Value.ref a from rx)
  obtain ⟨_,_,xs,_,o,es,ep,h1,h2,_⟩:=(show ObjOk X.prog X.w H s.heap a (.dT kvs) from I.hok a _ ea)
  exact PySem.W.kia_one PySem.W.kitx_dict I.kIn ⟨o,h1,h2.1⟩ e (fun z=>nomatch z) h
 | @ins a C dx fs ea cl ha hn htk hm =>
  cases (show u=Value.ref a from rx)
  obtain ⟨mA,O,_⟩:=ins_get I.hok ea
  obtain ⟨od,J,_⟩:=O.look
  exact PySem.W.kia_one (PySem.W.kitx_own (cl.get _) cl.hd ha hn htk hm) I.kIn J e (fun z=>nomatch z) h
end
end L2
namespace L2
open PySem PySem.Spec PyProof.Rows
structure Room (k:Nat) (A:Around):Prop where
 hd:16<=k->A.handled=none
 dp:A.depth + 3 * k + 5 < recursionLimit
 un:A.units + 16 * k + 200 < cLine
 gd:A.guards=some []
theorem Room.mono {j k:Nat} {A:Around} (r:Room k A) (h:j<=k):Room j A:=⟨fun z=>r.hd (Nat.le_trans z h),by have:=r.dp; omega,by have:=r.un; omega,r.gd⟩
theorem Room.deeper {k:Nat} {A:Around} (r:Room (k + 1) A) (env:Env):Room k (A.deeper env) :=
 ⟨fun z=>r.hd (Nat.le_succ_of_le z),by have:=r.dp; show A.depth + 1 + 3 * k + 5 < _; omega,by have:=r.un; show A.units + 3 + 16 * k + 200 < _; omega,r.gd⟩
theorem Room.in1 {k:Nat} {A:Around} (r:Room (k + 1) A):Room k A.in1 :=
 ⟨fun z=>r.hd (Nat.le_succ_of_le z),by have:=r.dp; show A.depth + 3 * k + 5 < _; omega,by have:=r.un; show A.units + 1 + 16 * k + 200 < _; omega,r.gd⟩
theorem Room.depth {k:Nat} {A:Around} (r:Room k A):A.depth < recursionLimit:=by have:=r.dp; omega
theorem Room.units {k:Nat} {A:Around} (r:Room k A):A.units + 64 < cLine:=by have:=r.un; omega
noncomputable def tNil:TA:=fun _ H Q=>Q [] H
noncomputable def tCons (ta:TE) (tr:TA):TA:=fun σ H Q=>ta σ H fun x H1=>tr σ H1 fun xs H2=>Q (x :: xs) H2
section
variable {X:Cx} {e:Expr} {es:List Expr} {te:TE} {t:TA} {pos:Pos}
theorem Vr:PA X [] tNil:=fun _ _ _ _ H Q I h=>Calls.spliced_nil ⟨[],H,I,.nil,h⟩
theorem Zg (ha:PE X e te) (hr:PA X es t) (hs:starEach (e :: es) X.env=(false,eval e X.env) :: starEach es X.env:=by rfl):PA X (e :: es) (tCons te t):=by
 intro pos pins s σ H Q I h
 rw [hs]
 show wpAny _ _ (spliced ((false,eval e X.env) :: backTo pos (starEach es X.env))) _ _ s
 refine Calls.spliced_cons (thn (ha pins s σ H _ I h) fun u s1 ⟨x,H1,I1,r1,q1⟩=>?_)
 exact thn (hr pos pins s1 σ H1 _ I1 q1) fun us s2 ⟨xs,H2,I2,r2,q2⟩=>⟨x :: xs,H2,I2,.cons r1 r2,q2⟩
noncomputable def tTup (t:TA):TE:=fun σ H Q=>t σ H fun xs H1=>xs.length<=sizeLine/\∀ p,H1 p=none->Q (.ref p) (upd H1 p (.tup xs))
noncomputable def tLst (t:TA):TE:=fun σ H Q=>t σ H fun xs H1=>xs.length<=sizeLine/\∀ p,H1 p=none->Q (.ref p) (upd H1 p (.lst xs))
theorem pe_tup {x1} (h:PA X es t):PE X (.Tuple es x1 pos) (tTup t):=by
 intro pins s σ H Q I hq
 refine wpAny_Tuple_spliced (thn (h pos pins s σ H _ I hq) fun us s1 ⟨xs,H1,I1,r,z,q⟩=>⟨by rw [<- r.length]; exact z,?_⟩)
 have hf:H1 s1.heap.objs.size=none:=I1.hok.fresh (Nat.le_refl _)
 refine ⟨.ref s1.heap.objs.size,upd H1 s1.heap.objs.size (.tup xs),I1.laid (t':=s1.toks) (fun b u e=>Heap.get?_push_of_some _ e) (Nat.le_refl _) ?_,rfl,q _ hf⟩
 exact ⟨z,us,r,⟨_,Heap.get?_push_size _ rfl,rfl,_,rfl,rfl⟩⟩
theorem pe_lst (h:PA X es t):PE X (.List es pos) (tLst t):=by
 intro pins s σ H Q I hq
 refine wpAny_List_spliced (thn (h pos pins s σ H _ I hq) fun us s1 ⟨xs,H1,I1,r,z,q⟩=>⟨by rw [<- r.length]; exact z,?_⟩)
 have hf:H1 s1.heap.objs.size=none:=I1.hok.fresh (Nat.le_refl _)
 refine ⟨.ref s1.heap.objs.size,upd H1 s1.heap.objs.size (.lst xs),I1.laid (t':=s1.toks) (fun b u e=>Heap.get?_push_of_some _ e) (Nat.le_refl _) ?_,rfl,q _ hf⟩
 exact ⟨z,us,0,r,Heap.get?_push_size _ rfl⟩
end
noncomputable abbrev Sp:=List V->Hp->VK->XK->Prop
noncomputable abbrev CXT:=List Env->Hp->Shared->XK->Value->Shared->Prop
structure Env0 (P:Program) (w:World) (K:PySem.W.Frag) (mg:Str->Option Value) (base:Heap) (A:Around) (outer:List Env) (s:Shared) (H:Hp):Prop where
 frames:A.frames=some outer
 mod:Mod K mg base
 bs:∀ b o,base.get? b=some o->s.heap.get? b=some o/\H b=none
 bsz:base.objs.size<=s.heap.objs.size
 funs:s.heap.FunFrames base outer
 frf:∀ b∈frs outer,H b=none
 hok:HOk P w H s.heap
 bare:AllBare s.gens
 hh:HdOk A H
noncomputable def CE (outer:List Env) (P:Program) (w:World) (H:Hp) (s:Shared) (Q:VK) (u:Value) (s':Shared):Prop :=
 ∃ v H',s'.os=s.os/\AllBare s'.gens/\Un (frs outer) [] H H' s.heap s'.heap/\HOk P w H' s'.heap/\RelV v u/\Q v H'
noncomputable def CR (CX:CXT) (outer:List Env) (P:Program) (w:World) (H:Hp) (s:Shared) (Q:VK) (E:XK) (r:Result) (s':Shared):Prop :=
 match r with
 | .ok (.ret u)=>CE outer P w H s Q u s'
 | .ok _=>False
 | .error e=>CX outer H s E e s'
structure FnOk (P:Program) (w:World) (K:PySem.W.Frag) (mg:Str->Option Value) (base:Heap) (CX:CXT) (k:Nat) (f:Addr) (fd:FuncData) (ps:List Str) (sp:Sp):Prop where
 len:∀ vs H Q E,sp vs H Q E->vs.length=ps.length
 run:∀ (A:Around) (outer:List Env) (s:Shared) (H:Hp) (args:Args) (us:List Value) (vs:List V) (Q:VK) (E:XK),Room k A->Env0 P w K mg base A outer s H->BindsTo s fd args (ps.zip us)->Vals vs us->sp vs H Q E ->
  codeAny (model P w) A (.call (.ref f) args) (CR CX outer P w H s Q E) s
theorem FnOk.mono {P:Program} {w:World} {K:PySem.W.Frag} {mg:Str->Option Value} {base:Heap} {CX:CXT} {j k:Nat} {f:Addr} {fd:FuncData} {ps:List Str} {sp:Sp} (F:FnOk P w K mg base CX j f fd ps sp) (h:j<=k) :
  FnOk P w K mg base CX k f fd ps sp:=⟨F.len,fun A outer s H args us vs Q E hr=>F.run A outer s H args us vs Q E (hr.mono h)⟩
theorem FnOk.imp {P:Program} {w:World} {K:PySem.W.Frag} {mg:Str->Option Value} {base:Heap} {CX:CXT} {k:Nat} {f:Addr} {fd:FuncData} {ps:List Str} {sp sp':Sp} (F:FnOk P w K mg base CX k f fd ps sp)
  (h:∀ vs H Q E,sp' vs H Q E->sp vs H Q E):FnOk P w K mg base CX k f fd ps sp' :=
 ⟨fun vs H Q E q=>F.len vs H Q E (h _ _ _ _ q),fun A outer s H args us vs Q E hr he hb hv hs=>F.run A outer s H args us vs Q E hr he hb hv (h _ _ _ _ hs)⟩
theorem Env0.in1 {P:Program} {w:World} {K:PySem.W.Frag} {mg:Str->Option Value} {base:Heap} {A:Around} {outer:List Env} {s:Shared} {H:Hp} (e:Env0 P w K mg base A outer s H) :
  Env0 P w K mg base A.in1 outer s H:=⟨e.frames,e.mod,e.bs,e.bsz,e.funs,e.frf,e.hok,e.bare,e.hh⟩
section
variable {X:Cx} {pins:List (Addr×Obj)} {σ:St} {H:Hp} {s s':Shared}
theorem Inv.env0 (I:Inv X pins σ H s):Env0 X.prog X.w X.K X.mg X.base X.A X.stack s H :=
 ⟨I.ok.frames,I.ok.mod,I.bs,Nat.le_trans I.ok.bsz I.sz,I.stack,I.stkFree,I.hok,I.bare,I.hh⟩
theorem Inv.after {Q:VK} {u:Value} (I:Inv X pins σ H s) (h:CE X.stack X.prog X.w H s Q u s'):EP X pins σ Q u s':=by
 obtain ⟨v,H',os,bare,un,hok,r,q⟩:=h
 obtain ⟨hh,g,d,t,os'⟩:=s'
 obtain rfl:os'=s.os:=os
 exact ⟨v,H',I.call (h':=hh) (g':=g) (d':=d) (t':=t) (ch:=[]) un hok bare (fun b z=>absurd z (by simp)),r,q⟩
end
noncomputable def tCall (sp:Sp) (dvs:List V) (E:XK) (t:TA):TE:=fun σ H Q=>t σ H fun vs H1=>sp (vs ++ dvs) H1 Q E
noncomputable def Binds (K:PySem.W.Frag) (fd:FuncData) (ps:List Str) (ds:List Value):Prop :=
 ∀ (s:Shared) (us:List Value),K.In s.heap->(us ++ ds).length=ps.length->BindsTo s fd ⟨us,[]⟩ (ps.zip (us ++ ds))
theorem Binds.all {K:PySem.W.Frag} {fd:FuncData} {ps:List Str} (h:∀ us:List Value,us.length=ps.length->bindArgs fd ⟨us,[]⟩=pure (ps.zip us)):Binds K fd ps []:=fun s us _ hl=>by
 rw [List.append_nil] at hl ⊢
 exact .of_eq (h us hl)
noncomputable def Wa3 (CX:CXT) (X:Cx) (E:XK):Prop:=∀ (pins:List (Addr×Obj)) (σ:St) (H:Hp) (s:Shared) (e:Value) (s':Shared),Inv X pins σ H s->CX X.stack H s E e s'->X.xe e s'
section
variable {X:Cx} {CX:CXT} {k:Nat} {f C:Addr} {fd:FuncData} {ps:List Str} {sp:Sp} {dvs:List V} {ds:List Value} {E:XK} {x m:Str} {p pos apos:Pos} {e o:Expr} {es:List Expr} {ta:TE} {t:TA}
theorem run_fn {pins:List (Addr×Obj)} {σ:St} {H:Hp} {s:Shared} {Q:VK} {us:List Value} {vs:List V} (F:FnOk X.prog X.w X.K X.mg X.base CX k f fd ps sp) (hr:Room k X.A) (hb:Binds X.K fd ps ds) (hd:Vals dvs ds) (hx:Wa3 CX X E)
  (I:Inv X pins σ H s) (r:Vals vs us) (h:sp (vs ++ dvs) H Q E):wpAny (model X.prog X.w) X.A (call (.ref f) us) (EP X pins σ Q) X.xe s:=by
 have r2:Vals (vs ++ dvs) (us ++ ds):=r.append hd
 have hl:(us ++ ds).length=ps.length:=by rw [<- r2.length]; exact F.len _ _ _ _ h
 refine wpAny_call (codeAny_mono (F.run X.A X.stack s H ⟨us,[]⟩ (us ++ ds) (vs ++ dvs) Q E hr I.env0 (hb s us I.kIn hl) r2 h) fun r s' hq=>?_)
 cases r with
 | error e=>exact hx pins σ H s e s' I hq
 | ok fl =>
  cases fl with
  | ret u=>exact I.after hq
  | next=>exact False.elim hq
  | brk=>exact False.elim hq
  | cont=>exact False.elim hq
theorem pe_call (F:FnOk X.prog X.w X.K X.mg X.base CX k f fd ps sp) (hr:Room k X.A) (hg:Gl X x) (hm:X.mg x=some (.ref f)) (hk:PySem.W.keepIn X.K (.ref f)=true) (hb:Binds X.K fd ps ds) (hd:Vals dvs ds) (hx:Wa3 CX X E)
  (ha:PA X (e :: es) t) (hdb:(x == ("__debug__" : Str))=false:=by decide) (he:starEach (e :: es) X.env=(false,eval e X.env) :: starEach es X.env:=by rfl) (hpl:(backTo pos (starEach es X.env)).any (·.1)=false:=by rfl) :
  PE X (.Call (.Name x p) (e :: es) [] pos) (tCall sp dvs E t):=by
 intro pins s σ H Q I h
 refine wpAny_Call_Name_kw (Vn I hg hm ?_ hdb)
 refine PySem.W.callWith_K (h₀:=X.base) I.ok.mod.kin hk (thn (ha pos pins s σ H _ I h) fun us s1 ⟨vs,H1,I1,r,q⟩=>⟨I1.kIn,?_⟩) he hpl
 exact run_fn F hr hb hd hx I1 r q
theorem Zb8 (F:FnOk X.prog X.w X.K X.mg X.base CX k f fd ps sp) (hr:Room k X.A) (hg:Gl X x) (hm:X.mg x=some (.ref f)) (hk:PySem.W.keepIn X.K (.ref f)=true) (hb:Binds X.K fd ps ds) (hd:Vals dvs ds) (hx:Wa3 CX X E)
  (hdb:(x == ("__debug__" : Str))=false:=by decide):PE X (.Call (.Name x p) [] [] pos) (tCall sp dvs E tNil):=by
 intro pins s σ H Q I h
 refine wpAny_Call_Name_kw (Vn I hg hm ?_ hdb)
 exact PySem.W.callWith_K0 I.kIn hk (run_fn (us:=[]) F hr hb hd hx I .nil h)
structure Mk (K:PySem.W.Frag) (C f:Addr):Prop where
 makes:PySem.W.makesIn K C=true
 init:PySem.W.findIn K (.ref C) "__init__" = some (some (.ref f))
 fn:PySem.W.isFn K (.ref f)=true
 kp:PySem.W.keepIn K (.ref C)=true
end
section
variable {X:Cx} {CX:CXT} {k:Nat} {f C:Addr} {fd:FuncData} {ps ks:List Str} {sp:Sp} {E:XK} {x m:Str} {p pos apos kpos:Pos} {e o:Expr} {es:List Expr} {kws:List Keyword} {te ta:TE} {t tk:TA} {nm:Option Str}
variable {g:List Value->List Value->List Value} {gV:List V->List V->List V}
end
structure FnScope (N P:List Str) (sc:Scope):Prop where
 kind:sc.kind = .function
 co:sc.isCoroutine=false
 gen:sc.isGenerator=false
 nd:N.Nodup
 pre:N.take P.length=P
 par:∀ x∈P,sc.names.lookup x=some .local∨sc.names.lookup x=some .cell
 nofree:∀ y∈sc.names,y.2≠.free
theorem Yal {kindOf:Str->Option NameKind} {x:Str}:∀ {binds:List (Str×Value)} {m:Str->Option Value},(∀ v,(x,v) ∉ binds)->bindL kindOf binds m x=m x
 | [],_,_=>rfl
 | (n,v) :: r,m,h=>by
  unfold bindL
  rw [Yal fun w hw=>h w (List.mem_cons_of_mem _ hw)]
  split
  ·have:x≠n:=by rintro rfl; exact h v List.mem_cons_self
   simp [this]
  ·rfl
theorem Wal {kindOf:Str->Option NameKind} {x:Str}:∀ {binds:List (Str×Value)} {m:Str->Option Value},(∀ v,(x,v) ∉ binds)->bindC kindOf binds m x=m x
 | [],_,_=>rfl
 | (n,v) :: r,m,h=>by
  unfold bindC
  rw [Wal fun w hw=>h w (List.mem_cons_of_mem _ hw)]
  split
  ·rfl
  ·have:x≠n:=by rintro rfl; exact h v List.mem_cons_self
   simp [this]
theorem Xal {kindOf:Str->Option NameKind} {x:Str} {v:Value}:∀ {P:List Str} {vs:List Value} {i:Nat} {m:Str->Option Value},P.Nodup->P[i]? = some x->vs[i]? = some v->kindOf x=some .local ->
  bindL kindOf (P.zip vs) m x=some v
 | [],_,_,_,_,h,_,_=>by simp at h
 | _ :: _,[],_,_,_,_,h,_=>by simp at h
 | p :: P,w :: vs,0,m,nd,h1,h2,hk=>by
  simp at h1 h2; subst h1; subst h2
  show bindL kindOf ((p,w) :: P.zip vs) m p=_
  unfold bindL
  rw [Yal fun v hv=>(List.nodup_cons.mp nd).1 (List.of_mem_zip hv).1,if_pos hk]
  simp
 | p :: P,w :: vs,i + 1,m,nd,h1,h2,hk=>by
  show bindL kindOf ((p,w) :: P.zip vs) m x=_
  unfold bindL
  exact Xal (i:=i) (List.nodup_cons.mp nd).2 (by simpa using h1) (by simpa using h2) hk
theorem Zam {kindOf:Str->Option NameKind} {x:Str} {v:Value}:∀ {P:List Str} {vs:List Value} {i:Nat} {m:Str->Option Value},P.Nodup->P[i]? = some x->vs[i]? = some v->kindOf x≠some .local ->
  bindC kindOf (P.zip vs) m x=some v
 | [],_,_,_,_,h,_,_=>by simp at h
 | _ :: _,[],_,_,_,_,h,_=>by simp at h
 | p :: P,w :: vs,0,m,nd,h1,h2,hk=>by
  simp at h1 h2; subst h1; subst h2
  show bindC kindOf ((p,w) :: P.zip vs) m p=_
  unfold bindC
  rw [Wal fun v hv=>(List.nodup_cons.mp nd).1 (List.of_mem_zip hv).1,if_neg hk]
  simp
 | p :: P,w :: vs,i + 1,m,nd,h1,h2,hk=>by
  show bindC kindOf ((p,w) :: P.zip vs) m x=_
  unfold bindC
  exact Zam (i:=i) (List.nodup_cons.mp nd).2 (by simpa using h1) (by simpa using h2) hk
noncomputable def start (N:List Str) (vs:List V):St:=vs.map some ++ List.replicate (N.length - vs.length) none
noncomputable def cxOf (CX:CXT) (P:Program) (w:World) (K:PySem.W.Frag) (mg:Str->Option Value) (base:Heap) (N:List Str) (qual:Str) (scope:Scope) (f:Addr) (cd:Value) (A:Around) (outer:List Env) (s:Shared) (H:Hp) (E:XK):Cx where
 prog:=P
 w:=w
 K:=K
 mg:=mg
 base:=base
 A:=A.deeper (envOfC qual scope s.heap.objs.size f cd)
 N:=N
 s₀:=s
 H₀:=H
 env:=envOfC qual scope s.heap.objs.size f cd
 outer:=outer
 stack:=envOfC qual scope s.heap.objs.size f cd :: outer
 ex:=[]
 calm:=A.handled.isNone
 fn:=fun _=>true
 pn:=[]
 xe:=fun e s'=>wpAny (model P w) (A.deeper (envOfC qual scope s.heap.objs.size f cd)) (leaving (envOfC qual scope s.heap.objs.size f cd) e) (fun _ s''=>CX outer H s E e s'') (fun e' s''=>CX outer H s E e' s'') s'
theorem Va2 {sc:Scope} {n:Nat} {x:Str} (h:sc.names.lookup x=some .cell):∃ c,(cellsFrom n sc.names []).lookup x=some c:=by
 have q:=PySem.W.cellsFrom_some sc.names n [] (.inl h)
 exact Option.isSome_iff_exists.mp q
theorem Vbp {CX:CXT} {P:Program} {w:World} {K:PySem.W.Frag} {mg:Str->Option Value} {base:Heap} {N ps:List Str} {qual:Str} {scope:Scope} {f:Addr} {cd:Value} {A:Around} {outer:List Env} {s s1:Shared} {H:Hp} {E:XK} {us:List Value} {vs:List V}
  (S:FnScope N ps scope) (e0:Env0 P w K mg base A outer s H) (hl:vs.length=ps.length) (r:Vals vs us)
  (x:InCallC s s.heap.objs.size (bindL (envOfC qual scope s.heap.objs.size f cd).kindOf (ps.zip us) fun _=>none) (cellsFrom (s.heap.objs.size + 1) scope.names []) (bindC (envOfC qual scope s.heap.objs.size f cd).kindOf (ps.zip us) fun _=>none) s1) :
  Inv (cxOf CX P w K mg base N qual scope f cd A outer s H E) [] (start N vs) H s1:=by
 have hpl:ps.length<=N.length:=by have:=congrArg List.length S.pre; rw [List.length_take] at this; omega
 obtain ⟨h1,tk,rfl,hk⟩:=x.done
 have noA:∀ b:Addr,b ∉ (cxOf CX P w K mg base N qual scope f cd A outer s H E).ex:=fun b z=>absurd (show b∈([]:List Addr) from z) (by simp)
 refine ⟨⟨e0.mod,S.kind,rfl,rfl,Nat.le_refl _,fun y z c h1 h2=>?_,fun y hy=>?_,fun y c _ h=>?_,fun z=>Option.isNone_iff_eq_none.mp z,Around.frames_deeper e0.frames,.inr ⟨rfl,rfl⟩,fun b z=>absurd z (noA b),e0.bs,e0.bsz,fun b _ _=>noA b,fun b z=>absurd z (noA b),e0.funs,e0.frf⟩,
  rfl,e0.bare,Un.kept hk,⟨_,x.toInCall.ns,fun i y v h1 h2 h3=>?_⟩,fun y c h=>⟨_,x.cell y c h⟩,e0.hok.fresh (Nat.le_refl _),fun y c h=>?_,fun p hp=>absurd (show p∈([]:List (Addr×Obj)) from hp) (by simp),e0.hok.kept hk,?_,e0.hh⟩
 ·exact name_of_addr x.apart (PySem.mem_of_lookup h1) (PySem.mem_of_lookup h2)
 ·have hy:scope.names.lookup y=some .cell∨scope.names.lookup y=some .free:=hy
  rcases hy with hy | hy
  ·exact Va2 hy
  ·exact absurd rfl (S.nofree _ (PySem.mem_of_lookup hy))
 ·exact Nat.le_of_lt (x.above y c (PySem.mem_of_lookup h))
 ·have hi:i < vs.length:=by
   unfold start at h2
   by_cases hi:i < vs.length
   ·exact hi
   ·rw [List.getElem?_append_right (by simpa using hi)] at h2
    rw [List.getElem?_replicate] at h2
    split at h2 <;> cases h2
  have ha:vs[i]? = some v:=by
   unfold start at h2
   rw [List.getElem?_append_left (by simpa using hi),List.getElem?_map] at h2
   cases e:vs[i]? with
   | none=>rw [e] at h2; cases h2
   | some a=>rw [e] at h2; cases h2; rfl
  obtain ⟨u,hu,rv⟩:=r.get ha
  have hp:ps[i]? = some y:=by
   rw [<- S.pre,List.getElem?_take_of_lt (by omega)]; exact h1
  have ndP:ps.Nodup:=by rw [<- S.pre]; exact S.nd.sublist (List.take_sublist _ _)
  refine ⟨u,rv,?_⟩
  rcases S.par y (List.mem_of_getElem? hp) with k | k
  ·exact .inl ⟨k,Xal ndP hp hu k⟩
  ·obtain ⟨c,e⟩:=Va2 (n:=s.heap.objs.size + 1) k
   refine .inr ⟨.inl k,c,e,?_⟩
   have q:=x.cell y c e
   rw [Zam ndP hp hu (by show scope.names.lookup y≠_; rw [k]; decide)] at q
   exact q
 ·exact e0.hok.fresh (Nat.le_of_lt (x.above y c (PySem.mem_of_lookup h)))
 ·unfold start
  show _=N.length
  rw [List.length_append,List.length_map,List.length_replicate]
  omega
theorem fn_of {CX:CXT} {P:Program} {w:World} {K:PySem.W.Frag} {mg:Str->Option Value} {base:Heap} {k:Nat} {f:Addr} {name qual:Str} {params:Arguments} {body:List Stmt} {scope:Scope} {dV kV doc pm cdv ct oc:Value} {an od:Option Addr}
  {osl:Array (Option Value)} {N ps:List Str} {sp:Sp} (lk:K.lookup f=some ⟨oc,od,.func (PySem.W.fnOf name qual params body scope dV kV doc pm an cdv ct),osl⟩) (hcd:PySem.W.codeIn K cdv qual=true) (S:FnScope N ps scope)
  (len:∀ vs H Q E,sp vs H Q E->vs.length=ps.length)
  (hbody:∀ (A:Around) (outer:List Env) (s:Shared) (H:Hp) (vs:List V) (Q:VK) (E:XK),Room k (A.deeper (envOfC qual scope s.heap.objs.size f cdv))->sp vs H Q E ->
   ∃ t,PSs (cxOf CX P w K mg base N qual scope f cdv A outer s H E) body t/\t { nx:=fun _ H'=>Q .non H',rt:=Q } (start N vs) H) :
  FnOk P w K mg base CX (k + 1) f (PySem.W.fnOf name qual params body scope dV kV doc pm an cdv ct) ps sp:=by
 refine ⟨len,fun A outer s H args us vs Q E hr e0 hb r hsp=>?_⟩
 have hl:=len _ _ _ _ hsp
 have KX:K.In s.heap:=e0.mod.kin.keeps fun b o e=>(e0.bs b o e).1
 have lim:s.heap.NoLimit:=e0.mod.nolimit.keeps fun b o e=>(e0.bs b o e).1
 have hkind:∀ y∈ps.zip us,scope.names.lookup y.1=some .local∨(scope.names.lookup y.1=some .cell/\((cellsFrom (s.heap.objs.size + 1) scope.names []).lookup y.1).isSome=true):=fun ⟨n,v⟩ hy=>by
  rcases S.par n (List.of_mem_zip hy).1 with q | q
  ·exact .inl q
  ·exact .inr ⟨q,PySem.W.cellsFrom_some _ _ _ (.inl q)⟩
 refine codeAny_call_function hr.depth (KX _ _ lk) rfl S.co S.gen rfl (PySem.W.codeRec_of KX hcd) (hb _ _ _ _ ?_)
 refine wpAny_newFunctionEnv_cells S.kind hkind fun env he s1 x=>?_
 subst he
 refine ⟨lim.keeps x.toInCall.keep,codeAny_func ?_⟩
 obtain ⟨t,ht,hq⟩:=hbody A outer s H vs Q E (hr.deeper _) hsp
 have I:Inv (cxOf CX P w K mg base N qual scope f cdv A outer s H E) [] (start N vs) H s1:=Vbp S e0 hl r x
 refine wpAny_mono (ht [] s1 (start N vs) H _ I hq) (fun fl s' hs=>?_) fun e s' hs=>hs
 have fin:∀ {σ':St} {H':Hp} {v:V} {u:Value},Inv (cxOf CX P w K mg base N qual scope f cdv A outer s H E) [] σ' H' s'->RelV v u->Q v H'->CE outer P w H s Q u s' :=
  fun {σ' H' v u} J rv q=>⟨v,H',J.os,J.bare,J.base,J.hok,rv,q⟩
 cases fl with
 | ret u =>
  obtain ⟨v,σ',H',J,rv,q⟩:=hs
  exact fin J rv q
 | next =>
  obtain ⟨σ',H',J,q⟩:=hs
  exact fin (v:=V.non) (u:=Value.none) J rfl q
 | brk =>
  obtain ⟨_,_,_,q⟩:=hs
  exact False.elim q
 | cont =>
  obtain ⟨_,_,_,q⟩:=hs
  exact False.elim q
end L2
namespace L2
open PySem PySem.Spec PyProof.Rows
section
variable {X:Cx} {x:Str} {p pos:Pos} {e:Expr} {es:List Expr} {t:TA} {id T:String} {r:List V->Hp->VK->Prop}
noncomputable def tCB (r:List V->Hp->VK->Prop) (t:TA):TE:=fun σ H Q=>t σ H fun vs H1=>r vs H1 Q
theorem Wi (hc:CallR X (.builtin id) r) (hg:Gl X x) (hm:X.mg x=none) (hv:bootBuiltins x=some (.builtin id)) (ha:PA X (e :: es) t) (hn:x≠"__name__":=by decide) (hdb:(x == ("__debug__" : Str))=false:=by decide)
  (he:starEach (e :: es) X.env=(false,eval e X.env) :: starEach es X.env:=by rfl) (hpl:(backTo pos (starEach es X.env)).any (·.1)=false:=by rfl):PE X (.Call (.Name x p) (e :: es) [] pos) (tCB r t):=by
 intro pins s σ H Q I h
 refine wpAny_Call_Name_kw (Waz I hg hm hv ?_ hn hdb)
 exact PyProof.Rows.callWith_builtin1 (thn (ha pos pins s σ H _ I h) fun us s1 ⟨vs,H1,I1,r1,q1⟩=>hc pins s1 σ H1 vs us Q I1 r1 q1) he hpl
theorem Yl (hc:CallR X (.type T) r) (hg:Gl X x) (hm:X.mg x=none) (hv:bootBuiltins x=some (.type T)) (ha:PA X (e :: es) t) (hn:x≠"__name__":=by decide) (hdb:(x == ("__debug__" : Str))=false:=by decide)
  (he:starEach (e :: es) X.env=(false,eval e X.env) :: starEach es X.env:=by rfl) (hpl:(backTo pos (starEach es X.env)).any (·.1)=false:=by rfl):PE X (.Call (.Name x p) (e :: es) [] pos) (tCB r t):=by
 intro pins s σ H Q I h
 refine wpAny_Call_Name_kw (Waz I hg hm hv ?_ hn hdb)
 exact PyProof.Rows.callWith_type1 (thn (ha pos pins s σ H _ I h) fun us s1 ⟨vs,H1,I1,r1,q1⟩=>hc pins s1 σ H1 vs us Q I1 r1 q1) he hpl
end
end L2
namespace HT
open PySem PyProof.Rows
section
open PySem.SeqAt
open PySem.AutoSeq1 (wpAny_loadPart')
open PySem.MeetsSeq PySem.MeetsSeq2 PySem.MeetsSeq3
end
section
variable {prog:Program} {w:World} {A:Around} {E:Value->Shared->Prop} {s:Shared}
theorem cat_tup {t b:Addr} {vs ws:List Value} {Q:Value->Shared->Prop} (ht:IsTup s.heap t vs.toArray) (hb:IsTup s.heap b ws.toArray) (hv:vs≠[])
  (h1:ws=[]->Q (.ref t) s) (h2:ws≠[]->Q (.ref s.heap.objs.size) { s with heap:=s.heap.push { cls:=.type "tuple",data:=.seq (vs ++ ws).toArray } })
  (hsz:vs.length + ws.length<=sizeLine):wpAny (model prog w) A (binaryOp .Add (.ref t) (.ref b)) Q E s:=by
 obtain ⟨⟨cls,dd,data,sl⟩,ho,hc,n,hd⟩:=id ht
 obtain ⟨⟨cls2,dd2,data2,sl2⟩,ho2,hc2,n2,hd2⟩:=id hb
 simp only at hc hd hc2 hd2
 subst hc hd hc2 hd2
 have e:vs.toArray ++ ws.toArray=(vs ++ ws).toArray:=by simp
 by_cases hw:ws=[]
 ·exact concat_meets ⟨_,ho,rfl⟩ ⟨_,ho2,rfl⟩ noFill_tuple_add seq_tuple_add PySem.F.slot_tuple_add PySem.F.entry_tuple_add (PySem.F.args_tuple_add_2 _ _)
   (tuple_addW1 t b vs.toArray ws.toArray n n2 dd dd2 sl sl2 (by simpa using hv) (by simp [hw])) ⟨ho,ho2,h1 hw⟩
 ·refine concat_meets ⟨_,ho,rfl⟩ ⟨_,ho2,rfl⟩ noFill_tuple_add seq_tuple_add PySem.F.slot_tuple_add PySem.F.entry_tuple_add (PySem.F.args_tuple_add_2 _ _)
   (tuple_addW2 t b vs.toArray ws.toArray n n2 dd dd2 sl sl2 (by simpa using hv) (by simpa using hw) (by rw [List.size_toArray,List.size_toArray]; exact hsz)) ⟨ho,ho2,?_⟩
  rw [e]
  exact h2 hw
noncomputable def sIx (n d:Nat):Option Int->Nat
 | none=>d
 | some v=>if v < 0 then (v + (n:Int)).toNat else min v.toNat n
theorem sIx_le (n d:Nat) (hd:d<=n) (o:Option Int):sIx n d o<=n:=by
 cases o with
 | none=>exact hd
 | some v =>
  show (if v < 0 then (v + (n:Int)).toNat else min v.toNat n)<=n
  by_cases hv:v < 0
  ·rw [if_pos hv]; omega
  ·rw [if_neg hv]; exact Nat.min_le_right _ _
theorem Zbu (v:Int) (n d:Nat):(if v < 0 then max (v + (n:Int)) 0 else min v (n:Int))=((sIx n d (some v):Nat):Int):=by
 show (if v < 0 then max (v + (n:Int)) 0 else min v (n:Int))=(((if v < 0 then (v + (n:Int)).toNat else min v.toNat n):Nat):Int)
 by_cases hv:v < 0
 ·simp only [if_pos hv]; omega
 ·simp only [if_neg hv]; omega
theorem Yba (lo hi:Option Int) (n:Nat):Builtin.Slice.sliceAdjust lo hi 1 (n:Int)=(((sIx n 0 lo:Nat):Int),((sIx n n hi:Nat):Int)):=by
 have h1:¬ ((1:Int) < 0):=by omega
 unfold Builtin.Slice.sliceAdjust
 simp only [h1,if_false]
 refine Prod.ext ?_ ?_
 ·cases lo with
  | none=>rfl
  | some v=>exact Zbu v n 0
 ·cases hi with
  | none=>rfl
  | some v=>exact Zbu v n n
theorem Ya6 (i j:Nat):Builtin.Slice.slicePlaces (i:Int) (j:Int) 1=j - i:=by
 unfold Builtin.Slice.slicePlaces
 have h1:(1:Int) > 0:=by omega
 simp only [h1,if_true,Int.ediv_one]
 split <;> omega
theorem X6 {v:Value} {o:Option Int} {Q:Option Int->Shared->Prop} (p:IsPart v o) (h:Q o s):wpAny (model prog w) A (Builtin.Slice.slicePartIndex v) Q E s:=by
 cases p with
 | none=>exact slicePart_none h
 | int i t=>exact slicePart_int h
theorem sliceApplied_gen {sl:Addr} {vl vu:Value} {lo hi:Option Int} {n:Nat} {Q:Int×Int×Nat->Shared->Prop} (hs:s.heap.IsSliceOf sl vl vu .none) (pl:IsPart vl lo) (pu:IsPart vu hi)
  (h:Q (((sIx n 0 lo:Nat):Int),1,sIx n n hi - sIx n 0 lo) s):wpAny (model prog w) A (Builtin.Slice.sliceApplied (.ref sl) (pure (n:Int))) Q E s:=by
 obtain ⟨os,hos,hcs,hds⟩:=id hs
 unfold Builtin.Slice.sliceApplied Builtin.Slice.sliceFields
 refine wpAny_bind (wpAny_bind (wpAny_field hos hds (x:=vl) rfl (wpAny_bind (wpAny_field hos hds (x:=vu) rfl (wpAny_bind (wpAny_field hos hds (x:=.none) rfl (wpAny_pure ?_)))))))
 refine wpAny_bind (slicePart_none ?_)
 show wpAny _ _ (if ((1:Int) == 0)=true then _ else _) _ _ s
 rw [if_neg (by decide)]
 refine wpAny_bind (X6 pl (wpAny_bind (X6 pu (wpAny_bind (wpAny_pure ?_)))))
 show wpAny _ _ (match Builtin.Slice.sliceAdjust lo hi 1 (n:Int) with | (lo,hi)=>pure (lo,(1:Int),Builtin.Slice.slicePlaces lo hi 1)) _ _ s
 rw [Yba lo hi n]
 show wpAny _ _ (pure (((sIx n 0 lo:Nat):Int),(1:Int),Builtin.Slice.slicePlaces ((sIx n 0 lo:Nat):Int) ((sIx n n hi:Nat):Int) 1)) _ _ s
 rw [Ya6]
 exact wpAny_pure h
theorem Xb5 (xs:Array Value) (i k:Nat):((List.range k).filterMap fun (m:Nat)=>xs[((i:Int) + (m:Int) * 1).toNat]?).toArray=((xs.toList.drop i).take k).toArray:=by
 have e:(fun (m:Nat)=>xs[((i:Int) + (m:Int) * 1).toNat]?)=fun m=>xs[i + m]?:=by
  funext m
  have:((i:Int) + (m:Int) * 1).toNat=i + m:=by omega
  rw [this]
 rw [e]
 have:=pick_run xs i k
 rw [List.filterMap_map] at this
 have e2:((fun x=>xs[x]?) ∘ fun x=>i + x)=fun m=>xs[i + m]?:=rfl
 rw [e2] at this
 rw [this]
theorem getItem_tuple_cut {t sl:Addr} {items:Array Value} {vl vu:Value} {lo hi:Option Int} {Q:Value->Shared->Prop} (ht:IsTup s.heap t items) (hs:s.heap.IsSliceOf sl vl vu .none) (pl:IsPart vl lo) (pu:IsPart vu hi)
  (hw:¬ (sIx items.size 0 lo=0/\sIx items.size items.size hi=items.size))
  (h:Q (.ref s.heap.objs.size) { s with heap:=s.heap.push { cls:=.type "tuple",data:=.seq ((items.toList.drop (sIx items.size 0 lo)).take (sIx items.size items.size hi - sIx items.size 0 lo)).toArray } })
  (hsz:items.size<=sizeLine):wpAny (model prog w) A (getItem (.ref t) (.ref sl)) Q E s:=by
 have htake:sizeOk (.seq ((items.toList.drop (sIx items.size 0 lo)).take (sIx items.size items.size hi - sIx items.size 0 lo)).toArray):=by
  show ((items.toList.drop (sIx items.size 0 lo)).take (sIx items.size items.size hi - sIx items.size 0 lo)).toArray.size<=sizeLine
  rw [List.size_toArray,List.length_take,List.length_drop,Array.length_toList]
  omega
 have hj:sIx items.size items.size hi<=items.size:=sIx_le _ _ (Nat.le_refl _) hi
 obtain ⟨os,hos,hcs,hds⟩:=id hs
 have hTs:s.TypeIs (.ref sl) "slice":=⟨os,hos,hcs⟩
 unfold getItem
 try with_reducible refine wpAny_holding ?_
 first | refine wpAny_bind (wpAny_pure ?_) | skip
 refine wpAny_bind (wpAny_sequenceKey ht.typeIs (by decide) ?_)
 refine wpAny_bind (wpAny_callSpecial?_slot (name:=Str.ofString "__getitem__") ht.typeIs PyProof.Rows.slot_tuple_getitem
  (wpAny_call_entry PyProof.Rows.slot_tuple_getitem ht.typeIs entry_tuple_getitem ?_ (args_tuple_getitem _ _)))
 show wpAny _ _ (Builtin.Tuple.tupleItemsOf (.ref t) >>= _) _ _ s
 refine wpAny_bind (tupleItemsOf_ ht ?_)
 refine wpAny_bind (wpAny_typeOf hTs ?_)
 rw [if_pos (by decide)]
 refine wpAny_bind (sliceApplied_gen hs pl pu ?_)
 have hno:¬ ((((sIx items.size 0 lo:Nat):Int) == 0 && (1:Int) == 1 && (sIx items.size items.size hi - sIx items.size 0 lo) == items.size)=true):=by
  intro q
  rw [Bool.and_eq_true,Bool.and_eq_true] at q
  have q1:((sIx items.size 0 lo:Nat):Int)=0:=eq_of_beq q.1.1
  have q2:sIx items.size items.size hi - sIx items.size 0 lo=items.size:=eq_of_beq q.2
  exact hw ⟨by omega,by omega⟩
 show wpAny _ _ (if (((sIx items.size 0 lo:Nat):Int) == 0 && (1:Int) == 1 && (sIx items.size items.size hi - sIx items.size 0 lo) == items.size)=true then _ else _) _ _ s
 rw [if_neg hno,Xb5]
 first
  | exact wpAny_bind (m:=Builtin.Tuple.tupleExact _) (wpAny_newObj_type (wpAny_pure ⟨_,rfl,wpAny_pure h⟩) htake)
  | exact wpAny_bind (m:=Builtin.Tuple.tupleExact _) (wpAny_newObj_type (wpAny_bind (wpAny_pure (wpAny_pure ⟨_,rfl,wpAny_pure h⟩))) htake)
  | exact wpAny_bind (wpAny_bind (m:=Builtin.Tuple.tupleExact _) (wpAny_newObj_type (wpAny_pure (wpAny_pure ⟨_,rfl,wpAny_pure h⟩)) htake))
  | exact wpAny_bind (wpAny_bind (m:=Builtin.Tuple.tupleExact _) (wpAny_newObj_type (wpAny_pure ⟨_,rfl,wpAny_pure h⟩) htake))
end
end HT
namespace L2
open PySem PySem.Spec PyProof.Rows
noncomputable abbrev TO:=St->Hp->(Option Int->Hp->Prop)->Prop
noncomputable def PO (X:Cx) (e:Option Expr) (t:TO):Prop :=
 ∀ (pins:List (Addr×Obj)) (s:Shared) (σ:St) (H:Hp) (Q:Option Int->Hp->Prop),Inv X pins σ H s->t σ H Q ->
  wpAny (model X.prog X.w) X.A (evalPart e X.env) (fun u s'=>∃ o H',Inv X pins σ H' s'/\IsPart u o/\Q o H') X.xe s
noncomputable def tNoPart:TO:=fun _ H Q=>Q none H
noncomputable def tPart (t:TE):TO:=fun σ H Q=>t σ H fun x H1=>∃ i,x = .int i/\Q (some i) H1
section
variable {X:Cx} {e:Expr} {te:TE} {lo hi:Option Expr} {tl th:TO} {pos p2:Pos}
theorem po_none:PO X none tNoPart:=by
 intro pins s σ H Q I h
 rw [evalPart_none]
 exact wpAny_pure ⟨none,H,I,.none,h⟩
theorem po_some (h:PE X e te):PO X (some e) (tPart te):=by
 intro pins s σ H Q I hw
 rw [evalPart_some]
 refine thn (h pins s σ H _ I hw) fun u s1 ⟨x,H1,I1,r1,q1⟩=>?_
 obtain ⟨i,rfl,q⟩:=q1
 obtain ⟨t,rfl⟩:=r1
 exact ⟨some i,H1,I1,.int i t,q⟩
noncomputable def SlR (X:Cx) (r:V->Option Int->Option Int->Hp->VK->Prop):Prop :=
 ∀ (pins:List (Addr×Obj)) (s:Shared) (σ:St) (H:Hp) (x:V) (v vl vu:Value) (lo hi:Option Int) (sl:Addr) (Q:VK),Inv X pins σ H s->RelV x v->s.heap.IsSliceOf sl vl vu .none->IsPart vl lo->IsPart vu hi->r x lo hi H Q ->
  ∃ T id,typeLookup (.type T) "__getitem__" = pure (some (.builtin id))/\s.TypeIs v T/\wpAny (model X.prog X.w) X.A (getItem v (.ref sl)) (EP X pins σ Q) X.xe s
theorem SlR.or {r r':V->Option Int->Option Int->Hp->VK->Prop} (h:SlR X r) (h':SlR X r'):SlR X (fun x lo hi H Q=>r x lo hi H Q∨r' x lo hi H Q):=by
 intro pins s σ H x v vl vu lo hi sl Q I rx hs pl pu q
 rcases q with q | q
 ·exact h pins s σ H x v vl vu lo hi sl Q I rx hs pl pu q
 ·exact h' pins s σ H x v vl vu lo hi sl Q I rx hs pl pu q
noncomputable def tSl (r:V->Option Int->Option Int->Hp->VK->Prop) (te:TE) (tl th:TO):TE:=fun σ H Q=>te σ H fun x H1=>tl σ H1 fun l H2=>th σ H2 fun u H3=>r x l u H3 Q
theorem Vb6 {r:V->Option Int->Option Int->Hp->VK->Prop} (hr:SlR X r) (he:PE X e te) (hl:PO X lo tl) (hu:PO X hi th):PE X (.Subscript e (.Slice lo hi none p2) pos) (tSl r te tl th):=by
 intro pins s σ H Q I h
 refine Subscript_ (thn (he pins s σ H _ I h) fun v s1 ⟨x,H1,I1,r1,q1⟩=>?_)
 refine wpAny_Slice (thn (hl pins s1 σ H1 _ I1 q1) fun vl s2 ⟨l,H2,I2,pl,q2⟩=>thn (hu pins s2 σ H2 _ I2 q2) fun vu s3 ⟨u,H3,I3,pu,q3⟩=>?_)
 rw [evalPart_none]
 refine wpAny_pure ?_
 have I4:Inv X pins σ H3 { s3 with heap:=s3.heap.push { cls:=.type "slice",data:=.fields #[vl,vu,.none] } }:=I3.kept (t':=s3.toks) fun b ob q=>Heap.get?_push_of_some _ q
 obtain ⟨T,id,hT,ht,hg⟩:=hr pins { s3 with heap:=s3.heap.push { cls:=.type "slice",data:=.fields #[vl,vu,.none] } } σ H3 x v vl vu l u s3.heap.objs.size Q I4 r1 (Heap.IsSliceOf.new ..) pl pu q3
 show wpAny (model X.prog X.w) X.A (subscriptTail e (.Slice lo hi none p2) v (.ref s3.heap.objs.size)) (EP X pins σ Q) X.xe { s3 with heap:=s3.heap.push { cls:=.type "slice",data:=.fields #[vl,vu,.none] } }
 exact tail_any (ops:=[.ref s3.heap.objs.size,v]) ht hT hg (by with_unfolding_all rfl)
noncomputable def cutV (xs:List V) (lo hi:Option Int):List V:=(xs.drop (HT.sIx xs.length 0 lo)).take (HT.sIx xs.length xs.length hi - HT.sIx xs.length 0 lo)
theorem Z4 (xs:List V) (lo hi:Option Int):(cutV xs lo hi).length<=xs.length:=by
 unfold cutV
 rw [List.length_take,List.length_drop]
 omega
noncomputable def rSlT (K:PySem.W.Frag):V->Option Int->Option Int->Hp->VK->Prop:=fun x lo hi H Q=>∃ a xs,x = .ref a/\SqT K H a xs /\
 ¬ (HT.sIx xs.length 0 lo=0/\HT.sIx xs.length xs.length hi=xs.length)/\∀ p,H p=none->Q (.ref p) (upd H p (.tup (cutV xs lo hi)))
theorem sl_tup:SlR X (rSlT X.K):=by
 intro pins s σ H x v vl vu lo hi sl Q I rx hs pl pu h
 obtain ⟨a,xs,rfl,hx,hw,q⟩:=h
 cases rx
 obtain ⟨its,r,ht,hz⟩:=I.tuple hx
 have hlen:its.toArray.size=xs.length:=by rw [List.size_toArray]; exact r.length.symm
 refine ⟨"tuple",_,PyProof.Rows.slot_tuple_getitem.lookup,ht.typeIs,?_⟩
 refine HT.getItem_tuple_cut ht hs pl pu (by rw [hlen]; exact hw) ?_ (by rw [hlen]; exact hz)
 rw [hlen]
 refine ⟨.ref s.heap.objs.size,_,I.laid (t':=s.toks) (o:=.tup (cutV xs lo hi)) (fun b ob q=>Heap.get?_push_of_some _ q) (Nat.le_refl _) ?_,rfl,q _ (I.hok.fresh (Nat.le_refl _))⟩
 exact ⟨Nat.le_trans (Z4 xs lo hi) hz,_,(r.drop (HT.sIx xs.length 0 lo)).take (HT.sIx xs.length xs.length hi - HT.sIx xs.length 0 lo),IsTupN.new _ _⟩
noncomputable def rCatT (K:PySem.W.Frag):R2:=fun x y H Q=>∃ a b xs ys,x = .ref a/\y = .ref b/\SqT K H a xs/\SqT K H b ys/\xs≠[]/\xs.length + ys.length<=sizeLine /\
 (ys=[]->Q (.ref a) H)/\(ys≠[]->∀ p,H p=none->Q (.ref p) (upd H p (.tup (xs ++ ys))))
theorem Vals.nil_iff {xs:List V} {us:List Value} (r:Vals xs us):us=[]<->xs=[]:=by
 cases r with
 | nil=>simp
 | cons _ _=>simp
theorem op_catT:OpR X (binaryOp .Add) (rCatT X.K):=by
 intro pins s σ H x y v u Q I rx ry h
 obtain ⟨a,b,xs,ys,rfl,rfl,ha,hb,hx,hz,q1,q2⟩:=h
 cases rx
 cases ry
 obtain ⟨its,r1,p1,_⟩:=I.tuple ha
 obtain ⟨its2,r2,p2,_⟩:=I.tuple hb
 refine HT.cat_tup p1 p2 (fun z=>hx (r1.nil_iff.mp z)) (fun z=>⟨.ref a,H,I,rfl,q1 (r2.nil_iff.mp z)⟩) (fun z=>?_) (by rw [<- r1.length,<- r2.length]; exact hz)
 refine ⟨.ref s.heap.objs.size,_,I.laid (t':=s.toks) (o:=.tup (xs ++ ys)) (fun b ob q=>Heap.get?_push_of_some _ q) (Nat.le_refl _) ?_,rfl,q2 (fun w=>z (r2.nil_iff.mpr w)) _ (I.hok.fresh (Nat.le_refl _))⟩
 exact ⟨by rw [List.length_append]; exact hz,_,r1.append r2,IsTupN.new _ _⟩
end
end L2
namespace L2
open PySem PySem.Spec PyProof.Rows
noncomputable def ixN (n:Nat) (i:Int):Option Nat:=if 0<=i then (if i < n then some i.toNat else none) else if -(n:Int)<=i then some (i + n).toNat else none
noncomputable def atI {α:Type} (xs:List α) (i:Int):Option α:=(ixN xs.length i).bind fun j=>xs[j]?
theorem Xbo {n:Nat} {i:Int} {j:Nat} (h:ixN n i=some j):seqIndex? i n=some j/\j < n/\-(n:Int)<=i/\i < n:=by
 unfold ixN at h
 by_cases h0:0<=i
 ·rw [if_pos h0] at h
  by_cases h1:i < n
  ·rw [if_pos h1] at h
   have e:i.toNat=j:=Option.some.inj h
   exact ⟨by rw [seqIndex_of h0 h1,e],by omega,by omega,h1⟩
  ·rw [if_neg h1] at h; cases h
 ·rw [if_neg h0] at h
  by_cases h1 : -(n:Int)<=i
  ·rw [if_pos h1] at h
   have e:(i + n).toNat=j:=Option.some.inj h
   exact ⟨by rw [seqIndex_neg (by omega) h1,e],by omega,h1,by omega⟩
  ·rw [if_neg h1] at h; cases h
theorem Zau {α:Type} {xs:List α} {i:Int} {v:α} (h:atI xs i=some v):∃ j,seqIndex? i xs.length=some j/\xs[j]? = some v/\j < xs.length/\-(xs.length:Int)<=i/\i < xs.length:=by
 unfold atI at h
 cases e:ixN xs.length i with
 | none=>rw [e] at h; cases h
 | some j =>
  rw [e] at h
  obtain ⟨h1,h2,h3,h4⟩:=Xbo e
  exact ⟨j,h1,h,h2,h3,h4⟩
noncomputable def Vbx (b:Expr):Prop:=∀ o i,subscripted b false o i=operate [o,i] (getItem o i)
noncomputable def IxR (X:Cx) (r:R2):Prop :=
 ∀ (value slice:Expr) (pins:List (Addr×Obj)) (s:Shared) (σ:St) (H:Hp) (x y:V) (v u:Value) (Q:VK),Inv X pins σ H s->RelV x v->RelV y u->r x y H Q ->
  subscripted slice false v u=operate [v,u] (getItem v u)->wpAny (model X.prog X.w) X.A (subscriptTail value slice v u) (EP X pins σ Q) X.xe s
noncomputable def MtR (X:Cx) (id:String) (r:V->List V->Hp->VK->Prop):Prop :=
 ∀ (pins:List (Addr×Obj)) (s:Shared) (σ:St) (H:Hp) (x:V) (xs:List V) (v:Value) (us:List Value) (Q:VK),Inv X pins σ H s->RelV x v->Vals xs us->r x xs H Q ->
  wpAny (model X.prog X.w) X.A (call (.builtin id) (v :: us)) (EP X pins σ Q) X.xe s
section
variable {X:Cx} {a b:Expr} {ta tb:TE} {pos:Pos}
theorem IxR.or {r r':R2} (h:IxR X r) (h':IxR X r'):IxR X (fun x y H Q=>r x y H Q∨r' x y H Q):=by
 intro value slice pins s σ H x y v u Q I rx ry q hs
 rcases q with q | q
 ·exact h value slice pins s σ H x y v u Q I rx ry q hs
 ·exact h' value slice pins s σ H x y v u Q I rx ry q hs
theorem MtR.or {id:String} {r r':V->List V->Hp->VK->Prop} (h:MtR X id r) (h':MtR X id r'):MtR X id (fun x xs H Q=>r x xs H Q∨r' x xs H Q):=by
 intro pins s σ H x xs v us Q I rx rs q
 rcases q with q | q
 ·exact h pins s σ H x xs v us Q I rx rs q
 ·exact h' pins s σ H x xs v us Q I rx rs q
theorem pe_ix {r:R2} (hr:IxR X r) (ha:PE X a ta) (hb:PE X b tb) (hs:Vbx b):PE X (.Subscript a b pos) (tOp r ta tb):=by
 intro pins s σ H Q I h
 exact Subscript_ (binT ha hb I h fun v u s2 x y H2 I2 rx ry q=>hr a b pins s2 σ H2 x y v u Q I2 rx ry q (hs _ _))
noncomputable def rIxL (K:PySem.W.Frag):R2:=fun x y H Q=>∃ p xs i v,x = .ref p/\y = .int i/\SqL K H p xs/\atI xs i=some v/\Q v H
noncomputable def rIxT (K:PySem.W.Frag):R2:=fun x y H Q=>∃ p xs i v,x = .ref p/\y = .int i/\SqT K H p xs/\atI xs i=some v/\Q v H
noncomputable def rIxS:R2:=fun x y H Q=>∃ z i c,x = .str z/\y = .int i/\z.length<=sizeLine/\atI z.cps.toList i=some c/\Q (.str ⟨#[c]⟩) H
theorem ix_list:IxR X (rIxL X.K):=by
 intro value slice pins s σ H x y v u Q I rx ry h hs
 obtain ⟨p,xs,i,z,rfl,rfl,hq,he,q⟩:=h
 cases rx
 obtain ⟨t,rfl⟩:=ry
 obtain ⟨its,r,pl,hz⟩:=I.list hq
 obtain ⟨j,h1,h2,h3,h4,h5⟩:=Zau he
 obtain ⟨w,ew,rw'⟩:=r.get h2
 have hl:=r.length
 have hn:=V0
 have fin:EP X pins σ Q w s:=⟨z,H,I,rw',q⟩
 by_cases h0:0<=i
 ·have hj:i.toNat=j:=by
   rw [seqIndex_of h0 h5] at h1
   exact Option.some.inj h1
  exact item_listR pl.isList h0 (by omega) (by rw [hj]; simpa using ew) fin hs
 ·have hj:(i + (its.toArray.size:Int)).toNat=j:=by
   rw [seqIndex_neg (by omega) h4] at h1
   rw [List.size_toArray,<- hl]
   exact Option.some.inj h1
  exact subscriptTail_builtinR (x:=w) pl.isList.typeIs slot_list_getitem.lookup
   (wpAny_getItem_list_neg (Q:=fun r s'=>r=w/\EP X pins σ Q r s') pl.isList (by omega) (by rw [List.size_toArray] <;> omega) (by omega) (by rw [hj]; simpa using ew) ⟨rfl,fin⟩) hs
theorem ix_tup:IxR X (rIxT X.K):=by
 intro value slice pins s σ H x y v u Q I rx ry h hs
 obtain ⟨p,xs,i,z,rfl,rfl,hq,he,q⟩:=h
 cases rx
 obtain ⟨t,rfl⟩:=ry
 obtain ⟨its,r,pl,hz⟩:=I.tuple hq
 obtain ⟨j,h1,h2,h3,h4,h5⟩:=Zau he
 obtain ⟨w,ew,rw'⟩:=r.get h2
 have hl:=r.length
 have hn:=V0
 have fin:EP X pins σ Q w s:=⟨z,H,I,rw',q⟩
 exact subscriptTail_builtinR (x:=w) pl.typeIs slot_tuple_getitem.lookup
  (getItem_tuple (j:=j) (Q:=fun r s'=>r=w/\EP X pins σ Q r s') pl (by omega) (by omega) (by rw [List.size_toArray,<- hl]; exact h1) (by simpa using ew) ⟨rfl,fin⟩) hs
theorem ix_str:IxR X rIxS:=by
 intro value slice pins s σ H x y v u Q I rx ry h hs
 obtain ⟨z,i,c,rfl,rfl,hz,he,q⟩:=h
 obtain ⟨t,rfl⟩:=rx
 obtain ⟨t',rfl⟩:=ry
 obtain ⟨j,h1,h2,h3,h4,h5⟩:=Zau he
 have hl:z.cps.toList.length=z.length:=by simp [Str.length]
 rw [hl] at h1 h4 h5
 have hn:=V0
 exact tail_any (typeIs_str s z t) slot_str_getitem.lookup (getItem_str (c:=c) (by
  have e1:decide (i < -(2 ^ 63:Int))=false:=decide_eq_false (by omega)
  have e2:decide (i ≥ 2 ^ 63)=false:=decide_eq_false (by omega)
  rw [e1,e2,Bool.or_false]) (by rw [h1]; simpa using h2) ⟨.str ⟨#[c]⟩,H,I.tok _,⟨_,rfl⟩,q⟩) hs
theorem Za7 (its:List Value) (n j:Nat) (u:Value):Obj.mapSeq (·.setIfInBounds j u) { cls:=.type "list",data:=.seq its.toArray n }={ cls:=.type "list",data:=.seq (its.set j u).toArray n }:=by
 simp [Obj.mapSeq]
theorem Inv.lst {pins:List (Addr×Obj)} {σ:St} {H:Hp} {s:Shared} {p:Addr} {xs:List V} (I:Inv X pins σ H s) (h:H p=some (.lst xs)) :
  ∃ (its:List Value) (n:Nat),Vals xs its/\s.heap.get? p=some { cls:=.type "list",data:=.seq its.toArray n }/\xs.length<=sizeLine:=by
 obtain ⟨z,its,n,r,e⟩:=I.hok p _ h
 exact ⟨its,n,r,e,z⟩
theorem Inv.lstUpd {pins:List (Addr×Obj)} {σ:St} {H:Hp} {s:Shared} {p:Addr} {xs ys:List V} {its its':List Value} {n n':Nat} {f:Obj->Obj} (I:Inv X pins σ H s) (h:H p=some (.lst xs))
  (ho:s.heap.get? p=some { cls:=.type "list",data:=.seq its.toArray n }) (hf:f { cls:=.type "list",data:=.seq its.toArray n }={ cls:=.type "list",data:=.seq its'.toArray n' }) (r:Vals ys its') (hz:ys.length<=sizeLine) (t:Nat) :
  Inv X pins σ (upd H p (.lst ys)) { s with heap:=s.heap.update p f,toks:=t }:=by
 have e:(s.heap.update p f).get? p=some { cls:=.type "list",data:=.seq its'.toArray n' }:=by
  rw [Heap.get?_update_self f ho (by rw [hf] <;> rfl),hf]
 refine I.write (x:=p) (e:=p) (by rw [h]; trivial) (.inl rfl) (fun b u hb q=>(Heap.get?_update_other _ _ (Ne.symm hb)).trans q) ⟨_,e⟩ ?_
 exact ⟨hz,its',n',r,e⟩
noncomputable def rSetL:V->V->V->Hp->(Hp->Prop)->Prop:=fun o i v H Q=>∃ p xs k j,o = .ref p/\i = .int k/\H p=some (.lst xs)/\ixN xs.length k=some j/\Q (upd H p (.lst (xs.set j v)))
theorem set_list:PSet X rSetL:=by
 intro pins s σ H o i v ov iv u Q I ro ri rv h
 obtain ⟨p,xs,k,j,rfl,rfl,hp,hj,q⟩:=h
 cases ro
 obtain ⟨t,rfl⟩:=ri
 obtain ⟨its,n,r,ho,hz⟩:=I.lst hp
 obtain ⟨h1,h2,h3,h4⟩:=Xbo hj
 have hl:=r.length
 have hn:=V0
 have I':Inv X pins σ (upd H p (.lst (xs.set j v))) { s with heap:=s.heap.update p (Obj.mapSeq (·.setIfInBounds j u)) } :=
  I.lstUpd hp ho (Za7 its n j u) (r.set rv j) (by rw [List.length_set]; exact hz) s.toks
 by_cases h0:0<=k
 ·have hk:k.toNat=j:=by
   rw [seqIndex_of h0 h4] at h1
   exact Option.some.inj h1
  exact PySem.W.ki_setAt ho h0 (by omega) (by rw [List.size_toArray,<- hl]; exact h4) (by rw [hk]; exact ⟨_,I',q⟩)
 ·have hk:(k + (its.toArray.size:Int)).toNat=j:=by
   rw [seqIndex_neg (by omega) h3] at h1
   rw [List.size_toArray,<- hl]
   exact Option.some.inj h1
  exact PySem.W.ki_setBack ho (by omega) (by rw [List.size_toArray,<- hl]; exact h3) (by omega) (by rw [hk]; exact ⟨_,I',q⟩)
theorem Yag (lo hi:Option Int) (n:Nat):(sliceBounds lo hi none n).1=((HT.sIx n 0 lo:Nat):Int)/\(sliceBounds lo hi none n).2.1=((HT.sIx n n hi:Nat):Int)/\(sliceBounds lo hi none n).2.2=1:=by
 refine ⟨?_,?_,rfl⟩
 ·cases lo with
  | none=>simp [sliceBounds,HT.sIx]
  | some i =>
   simp only [sliceBounds,HT.sIx,Option.getD_none,show (1:Int) > 0 by decide,if_true]
   by_cases h:i < 0
   ·simp only [h,if_true] <;> omega
   ·simp only [h,if_false] <;> omega
 ·cases hi with
  | none=>simp [sliceBounds,HT.sIx]
  | some i =>
   simp only [sliceBounds,HT.sIx,Option.getD_none,show (1:Int) > 0 by decide,if_true]
   by_cases h:i < 0
   ·simp only [h,if_true] <;> omega
   ·simp only [h,if_false] <;> omega
theorem Vab (its:List Value) (lo hi:Option Int):slicePick its.toArray lo hi none=((its.drop (HT.sIx its.length 0 lo)).take (HT.sIx its.length its.length hi - HT.sIx its.length 0 lo)).toArray:=by
 obtain ⟨h1,h2,h3⟩:=Yag lo hi its.toArray.size
 unfold slicePick
 rw [h1,h2,h3]
 simp only [sliceRange_one,pick_run,List.size_toArray] <;> rfl
noncomputable def rSlL (K:PySem.W.Frag):V->Option Int->Option Int->Hp->VK->Prop:=fun x lo hi H Q=>∃ a xs,x = .ref a/\SqL K H a xs/\∀ p,H p=none->Q (.ref p) (upd H p (.lst (cutV xs lo hi)))
theorem sl_list:SlR X (rSlL X.K):=by
 intro pins s σ H x v vl vu lo hi sl Q I rx hs pl pu h
 obtain ⟨a,xs,rfl,hx,q⟩:=h
 cases rx
 obtain ⟨its,r,ht,hz⟩:=I.list hx
 have hlen:=r.length
 refine ⟨"list",_,slot_list_getitem.lookup,ht.isList.typeIs,?_⟩
 refine wpAny_getItem_list_slice ht.isList hs pl pu .none (by simp) ?_ (by rw [List.size_toArray] <;> omega)
 rw [Vab,<- hlen]
 refine ⟨.ref s.heap.objs.size,_,I.laid (t':=s.toks) (o:=.lst (cutV xs lo hi)) (fun b ob q=>Heap.get?_push_of_some _ q) (Nat.le_refl _) ?_,rfl,q _ (I.hok.fresh (Nat.le_refl _))⟩
 exact ⟨Nat.le_trans (Z4 xs lo hi) hz,_,0,(r.drop (HT.sIx xs.length 0 lo)).take (HT.sIx xs.length xs.length hi - HT.sIx xs.length 0 lo),Heap.get?_push_size _ rfl⟩
theorem CallR.or {f:Value} {r r':List V->Hp->VK->Prop} (h:CallR X f r) (h':CallR X f r'):CallR X f (fun xs H Q=>r xs H Q∨r' xs H Q):=by
 intro pins s σ H xs us Q I rs q
 rcases q with q | q
 ·exact h pins s σ H xs us Q I rs q
 ·exact h' pins s σ H xs us Q I rs q
theorem Vw:CallR X (.type "list") (fun xs H Q=>∃ p ys,xs=[.ref p]/\(SqL X.K H p ys∨SqT X.K H p ys)/\∀ l,H l=none->Q (.ref l) (upd H l (.lst ys))):=by
 intro pins s σ H xs us Q I r h
 obtain ⟨p,ys,rfl,hq,q⟩:=h
 obtain ⟨u,rfl,rx⟩:=vals1 r
 cases rx
 have fin:∀ (its:List Value),Vals ys its->ys.length<=sizeLine->∀ (h':Heap) (c':Nat),(∀ b o',s.heap.get? b=some o'->h'.get? b=some o') ->
   h'.get? s.heap.objs.size=some { cls:=.type "list",dict:=none,data:=.seq its.toArray c',slots:=#[] }->EP X pins σ Q (.ref s.heap.objs.size) { s with heap:=h' }:=fun its r' hz h' c' kp e =>
  ⟨.ref s.heap.objs.size,_,I.laid (t':=s.toks) kp (Nat.le_refl _) (show ObjOk X.prog X.w _ h' _ (.lst ys) from ⟨hz,its,c',r',e⟩),rfl,q _ (I.hok.fresh (Nat.le_refl _))⟩
 rcases hq with hq | hq
 ·obtain ⟨its,r',pl,hz⟩:=I.list hq
  have hlen:=r'.length
  obtain ⟨o,ho,hc,n,hd⟩:=pl.isList
  exact call_list_seq p (.inl rfl) ho hc hd (fun h' c' kp e=>fin its r' hz h' c' kp e) (by simp only [List.size_toArray] <;> omega)
 ·obtain ⟨its,r',pl,hz⟩:=I.tuple hq
  have hlen:=r'.length
  obtain ⟨o,ho,hc,n,hd⟩:=pl
  exact call_list_seq p (.inr rfl) ho hc hd (fun h' c' kp e=>fin its r' hz h' c' kp e) (by simp only [List.size_toArray] <;> omega)
theorem Zu:CallR X (.type "tuple") (fun xs H Q=>∃ p ys,xs=[.ref p]/\((SqL X.K H p ys/\∀ l,H l=none->Q (.ref l) (upd H l (.tup ys)))∨(SqT X.K H p ys/\Q (.ref p) H))):=by
 intro pins s σ H xs us Q I r h
 obtain ⟨p,ys,rfl,h⟩:=h
 obtain ⟨u,rfl,rx⟩:=vals1 r
 cases rx
 rcases h with ⟨hq,q⟩ | ⟨hq,q⟩
 ·obtain ⟨its,r',pl,hz⟩:=I.list hq
  have hlen:=r'.length
  refine call_tuple_list pl.isList (fun h' kp=>?_) (by simp only [List.size_toArray] <;> omega)
  have I1:Inv X pins σ H { s with heap:=h' }:=I.kept (t':=s.toks) kp
  have I2:Inv X pins σ (upd H h'.objs.size (.tup ys)) { s with heap:=h'.push { cls:=.type "tuple",data:=.seq its.toArray } } :=
   I1.laid (t':=s.toks) (fun b o e=>Heap.get?_push_of_some _ e) (Nat.le_refl _) (show ObjOk X.prog X.w _ _ _ (.tup ys) from ⟨hz,its,r',IsTupN.new _ _⟩)
  exact ⟨.ref h'.objs.size,_,I2,rfl,q _ (I1.hok.fresh (Nat.le_refl _))⟩
 ·obtain ⟨its,r',pl,hz⟩:=I.tuple hq
  exact call_tuple_same pl ⟨.ref p,H,I,rfl,q⟩
noncomputable def tyV (K:PySem.W.Frag) (T:String) (x:V) (H:Hp):Prop:=match x with
 | .str _=>T = "str"
 | .int _=>T = "int"
 | .ref p=>(T = "list"/\∃ xs,SqL K H p xs)∨(T = "tuple"/\((∃ o,K.lookup p=some o/\o.cls = .type "tuple"/\o.dict=none)∨∃ xs,H p=some (.tup xs))) ∨
   (T = "dict"/\((∃ kvs,H p=some (.dK kvs))∨∃ kvs,H p=some (.dT kvs)))∨(T = "set"/\∃ S n,H p=some (.set S n))
 | _=>False
theorem tyV_is {pins:List (Addr×Obj)} {σ:St} {H:Hp} {s:Shared} {T:String} {x:V} {v:Value} (I:Inv X pins σ H s) (r:RelV x v) (ty:tyV X.K T x H) :
  s.TypeIs v T/\∀ a,v = .ref a->∃ ob,s.heap.get? a=some ob/\ob.dict=none:=by
 cases x with
 | str z =>
  obtain ⟨t,rfl⟩:=r
  cases (show T = "str" from ty)
  exact ⟨typeIs_str s z t,fun _ e=>nomatch e⟩
 | int i =>
  obtain ⟨t,rfl⟩:=r
  cases (show T = "int" from ty)
  exact ⟨typeIs_int s i t,fun _ e=>nomatch e⟩
 | ref p =>
  cases r
  rcases ty with ⟨rfl,xs,hq⟩ | ⟨rfl,⟨o,hk,hc,hd⟩ | ⟨xs,hk⟩⟩ | ⟨rfl,hk⟩ | ⟨rfl,S,n,hk⟩
  ·obtain ⟨its,_,pl,_⟩:=I.list hq
   refine ⟨pl.isList.typeIs,fun a e=>?_⟩
   cases e
   obtain ⟨o,n,e,c,hd,_⟩:=pl
   exact ⟨o,e,hd⟩
  ·refine ⟨⟨o,I.kIn p o hk,hc⟩,fun a e=>?_⟩
   cases e
   exact ⟨o,I.kIn _ o hk,hd⟩
  ·obtain ⟨_,_,_,o,e,c,_,_,hd⟩:=I.hok p _ hk
   refine ⟨⟨o,e,c⟩,fun a e2=>?_⟩
   cases e2
   exact ⟨o,e,hd⟩
  ·have z:∃ o,s.heap.get? p=some o/\o.ExactDict:=by
    rcases hk with ⟨kvs,hk⟩ | ⟨kvs,hk⟩
    ·obtain ⟨_,_,_,_,o,_,_,e,ex,_⟩:=I.hok p _ hk
     exact ⟨o,e,ex⟩
    ·obtain ⟨_,_,_,_,o,_,_,e,ex,_⟩:=I.hok p _ hk
     exact ⟨o,e,ex⟩
   obtain ⟨o,e,ex⟩:=z
   refine ⟨⟨o,e,ex.1⟩,fun a e2=>?_⟩
   cases e2
   exact ⟨o,e,ex.2.1⟩
  ·obtain ⟨o,_,_,_,e,ex,_⟩:=I.hok p _ hk
   refine ⟨⟨o,e,ex.1⟩,fun a e2=>?_⟩
   cases e2
   exact ⟨o,e,ex.2.1⟩
 | _=>exact False.elim ty
noncomputable def tBM0 (K:PySem.W.Frag) (T:String) (r:V->List V->Hp->VK->Prop) (to:TE):TE:=fun σ H Q=>to σ H fun x H1=>tyV K T x H1/\r x [] H1 Q
noncomputable def tBM (K:PySem.W.Frag) (T:String) (r:V->List V->Hp->VK->Prop) (to:TE) (t:TA):TE:=fun σ H Q=>to σ H fun x H1=>tyV K T x H1/\t σ H1 fun xs H2=>r x xs H2 Q
variable {o e:Expr} {es:List Expr} {to:TE} {t:TA} {name:Str} {apos cpos:Pos} {T id:String} {r:V->List V->Hp->VK->Prop}
theorem pe_bm0 (pa:PlainAttrs T) (slot:Slot T name id) (hty:typeOf (.builtin id)=pure (.type "method_descriptor")) (hm:MtR X id r) (ho:PE X o to)
  (hbase:attributeBase o name X.env (eval o X.env)=eval o X.env:=by rfl) (hline:(apos.endLine == cpos.line)=true:=by rfl):PE X (.Call (.Attribute o name apos) [] [] cpos) (tBM0 X.K T r to):=by
 intro pins s σ H Q I h
 refine wpAny_Call_method0_late hbase hline (thn (ho pins s σ H _ I h) fun v s1 ⟨x,H1,I1,r1,ty,q1⟩=>?_)
 obtain ⟨h1,h2⟩:=tyV_is I1 r1 ty
 exact ⟨T,id,pa,slot,hty,h1,h2,Calls.callWith_builtin rfl (PySem.evalArgs_none (hm pins s1 σ H1 x [] v [] Q I1 r1 .nil q1))⟩
theorem pe_bm (pa:PlainAttrs T) (slot:Slot T name id) (hty:typeOf (.builtin id)=pure (.type "method_descriptor")) (hm:MtR X id r) (ho:PE X o to) (ha:PA X (e :: es) t)
  (hbase:attributeBase o name X.env (eval o X.env)=eval o X.env:=by rfl)
  (hfew:((backTo cpos (starEach (e :: es) X.env)).all (fun x=>!x.1) && (backToKw cpos (keywordEach [] X.env)).all (fun x=>x.1.isSome)
   && decide ((e :: es).length + ([]:List Keyword).length + (if ([]:List Keyword).isEmpty then 0 else 1) < 30))=true:=by rfl)
  (hline:(apos.endLine == cpos.line)=true:=by rfl) (hs:starEach (e :: es) X.env=(false,eval e X.env) :: starEach es X.env:=by rfl) (hplain:(backTo cpos (starEach es X.env)).any (·.1)=false:=by rfl) :
  PE X (.Call (.Attribute o name apos) (e :: es) [] cpos) (tBM X.K T r to t):=by
 intro pins s σ H Q I h
 refine wpAny_Call_method_late hbase hfew hline rfl (thn (ho pins s σ H _ I h) fun v s1 ⟨x,H1,I1,r1,ty,q1⟩=>?_)
 obtain ⟨h1,h2⟩:=tyV_is I1 r1 ty
 refine ⟨T,id,pa,slot,hty,h1,h2,?_⟩
 have hA:=ha cpos pins s1 σ H1 _ I1 q1
 rw [hs] at hA ⊢
 refine Calls.callWith_builtin (by show (false || (backTo cpos (starEach es X.env)).any (·.1))=false; rw [hplain] <;> rfl) (Calls.evalArgs_plain ?_)
 exact thn hA fun us s2 ⟨vs,H2,I2,r2,q2⟩=>hm pins s2 σ H2 x vs v us Q I2 r1 r2 q2
/- xs.append(e),list.index on a module's tuple .. are MtR facts of 06m -/
end
end L2
namespace L2
open PySem PySem.Spec PyProof.Rows
noncomputable def MtM (X:Cx) (id:String) (r:V->List V->Hp->VK->Prop):Prop :=
 ∀ (pins:List (Addr×Obj)) (s:Shared) (σ:St) (H:Hp) (x:V) (xs:List V) (v:Value) (us:List Value) (Q:VK),Inv X pins σ H s->RelV x v->Vals xs us->r x xs H Q ->
  wpAny (model X.prog X.w) X.A (call (.builtin id) (v :: us)) (EP X pins σ Q) X.xe s
theorem Vals.one:∀ {x:V} {us:List Value},Vals [x] us->∃ u,us=[u]/\RelV x u
 | _,_,.cons r .nil=>⟨_,rfl,r⟩
theorem Vals.two:∀ {x y:V} {us:List Value},Vals [x,y] us->∃ u v,us=[u,v]/\RelV x u/\RelV y v
 | _,_,_,.cons r (.cons q .nil)=>⟨_,_,rfl,r,q⟩
theorem Vals.zero:∀ {us:List Value},Vals [] us->us=[]
 | _,.nil=>rfl
theorem Vals.eraseIdx:∀ {xs:List V} {us:List Value} (i:Nat),Vals xs us->Vals (xs.eraseIdx i) (us.eraseIdx i)
 | _,_,_,.nil=>.nil
 | _,_,0,.cons _ t=>t
 | _,_,i + 1,.cons r t=>.cons r (Vals.eraseIdx i t)
theorem Vals.reverse {xs:List V} {us:List Value} (h:Vals xs us):Vals xs.reverse us.reverse:=by
 induction h with
 | nil=>exact .nil
 | cons r t ih=>rw [List.reverse_cons,List.reverse_cons]; exact Vals.append ih (.cons r .nil)
theorem Vals.rep {xs:List V} {us:List Value} (h:Vals xs us):∀ k:Nat,Vals (List.replicate k xs).flatten (List.replicate k us).flatten
 | 0=>.nil
 | k + 1=>by
  rw [List.replicate_succ,List.replicate_succ,List.flatten_cons,List.flatten_cons]
  exact Vals.append h (Vals.rep h k)
section
variable {X:Cx} {pins:List (Addr×Obj)} {σ:St} {H:Hp} {s:Shared} {l b:Addr} {xs ys zs:List V}
theorem Inv.lset {its its':List Value} {n:Nat} {f:Array Value->Array Value} {t':Nat} (I:Inv X pins σ H s) (hH:H l=some (.lst xs))
  (e:s.heap.get? l=some { cls:=.type "list",data:=.seq its.toArray n }) (hf:f its.toArray=its'.toArray) (hv:Vals ys its') (hz:ys.length<=sizeLine) :
  Inv X pins σ (upd H l (.lst ys)) { s with heap:=s.heap.update l (Obj.mapSeq f),toks:=t' }:=by
 have q:=PySem.IsL.update e f
 rw [hf] at q
 refine I.write (x:=l) (e:=l) (by rw [hH]; exact trivial) (.inl rfl) (fun b' u hb hu=>(Heap.get?_update_other s.heap (Obj.mapSeq f) (Ne.symm hb)).trans hu) ⟨_,q⟩ ?_
 exact ⟨hz,its',_,hv,q⟩
theorem Inv.lnew {its:List Value} {t':Nat} (I:Inv X pins σ H s) (hv:Vals ys its) (hz:ys.length<=sizeLine) :
  Inv X pins σ (upd H s.heap.objs.size (.lst ys)) { s with heap:=s.heap.push { cls:=.type "list",data:=.seq its.toArray },toks:=t' } :=
 I.laid (fun _ _ q=>Heap.get?_push_of_some _ q) (Nat.le_refl _) ⟨hz,its,0,hv,Heap.get?_push_size _ rfl⟩
theorem Inv.fresh (I:Inv X pins σ H s):H s.heap.objs.size=none:=I.hok.fresh (Nat.le_refl _)
theorem Inv.lstM (I:Inv X pins σ H s) (hH:H l=some (.lst xs)):xs.length<=sizeLine/\∃ (its:List Value) (n:Nat),Vals xs its/\xs.length=its.length/\s.heap.get? l=some { cls:=.type "list",data:=.seq its.toArray n }:=by
 obtain ⟨z,its,n,r,e⟩:=I.hok l _ hH
 exact ⟨z,its,n,r,r.length,e⟩
end
section
variable {X:Cx}
noncomputable def rAppend:V->List V->Hp->VK->Prop:=fun x vs H Q=>∃ l xs y,x = .ref l/\vs=[y]/\H l=some (.lst xs)/\xs.length < sizeLine/\Q .non (upd H l (.lst (xs ++ [y])))
theorem Wbk:MtM X "list.append" rAppend:=by
 intro pins s σ H x vs v us Q I rx rv h
 obtain ⟨l,xs,y,rfl,rfl,hH,hz,q⟩:=h
 cases rx
 obtain ⟨u,rfl,ru⟩:=rv.one
 obtain ⟨z,its,n,r,hl,e⟩:=I.lstM hH
 refine call_meets F.slot_list_append ⟨_,e,rfl⟩ F.entry_list_append (F.args_list_append_2 _ _) (PySem.list_append l its.toArray n u (by rw [List.size_toArray]; omega)) ⟨e,?_⟩
 refine ⟨.non,_,I.lset (its':=its ++ [u]) hH e (by simp) (r.append (.cons ru .nil)) ?_,rfl,q⟩
 rw [List.length_append,List.length_singleton]
 omega
noncomputable def Yb4:V->List V->Hp->VK->Prop:=fun x vs H Q=>∃ l xs,x = .ref l/\vs=[]/\H l=some (.lst xs)/\Q .non (upd H l (.lst xs.reverse))
theorem Va6:MtM X "list.reverse" Yb4:=by
 intro pins s σ H x vs v us Q I rx rv h
 obtain ⟨l,xs,rfl,rfl,hH,q⟩:=h
 cases rx
 have hus:=rv.zero
 subst hus
 obtain ⟨z,its,n,r,hl,e⟩:=I.lstM hH
 refine call_meets F.slot_list_reverse ⟨_,e,rfl⟩ F.entry_list_reverse (F.args_list_reverse_1 _) (AutoSeq1.list_reverse_list_0 l its.toArray n (by rw [List.size_toArray]; omega)) ⟨e,?_⟩
 refine ⟨.non,_,I.lset (its':=its.reverse) hH e (by simp) r.reverse ?_,rfl,q⟩
 rw [List.length_reverse]
 omega
noncomputable def rCat:R2:=fun x y H Q=>∃ l b xs zs,x = .ref l/\y = .ref b/\H l=some (.lst xs)/\H b=some (.lst zs)/\xs.length + zs.length<=sizeLine/\∀ p,H p=none->Q (.ref p) (upd H p (.lst (xs ++ zs)))
theorem op_cat:OpR X (binaryOp .Add) rCat:=by
 intro pins s σ H x y v u Q I rx ry h
 obtain ⟨l,b,xs,zs,rfl,rfl,hH,hB,hz,q⟩:=h
 cases rx
 cases ry
 obtain ⟨z,its,n,r,hl,e⟩:=I.lstM hH
 obtain ⟨z2,its2,n2,r2,hl2,e2⟩:=I.lstM hB
 refine PySem.P.add_list e e2 ?_ (by rw [List.size_toArray,List.size_toArray]; omega)
 have ea:its.toArray ++ its2.toArray=(its ++ its2).toArray:=by simp
 rw [ea]
 exact ⟨.ref _,_,I.lnew (t':=s.toks) (r.append r2) (by rw [List.length_append]; omega),rfl,q _ I.fresh⟩
end
section
variable {prog:Program} {w:World} {A:Around} {E:Value->Shared->Prop} {s:Shared}
end
section
variable {X:Cx}
end
end L2
namespace Att
open PySem PySem.W PySem.Calls PyProof.Rows
theorem V2 {P:Params} {h:Heap}:∀ (ns:List Int) (vs:List Value),WellAll P h vs (ns.map WData.int)->IntsAre vs ns:=by
 intro ns
 induction ns with
 | nil =>
  intro vs w
  rw [List.map_nil] at w
  cases w
  exact .nil
 | cons n ns ih =>
  intro vs w
  rw [List.map_cons] at w
  cases w with
  | cons a b =>
   cases a
   exact .cons _ _ (ih _ b)
theorem Vbf {l:OpenLaw} {n:Nat} (hn:l.most=some n) {P:Params} {h:Heap} {args:List WData} {vals:List Value}
  (hpre:l.row.toRowW.claim.pre args=true) (hwl:WellAll P h vals args) :
  ∃ a vs ns,vals=[Value.ref a]/\args=[WData.list (ns.map WData.int)]/\h.get? a=some { cls:=.type "list",data:=.seq vs.toArray }/\IntsAre vs ns/\ns.length<=n:=by
 have hsh:WShape.hasAll [] args [.list .int]=true:=(pre_splitW hpre).1
 have hc:l.pre.holds [] { args:=args }=true:=(pre_splitW hpre).2
 obtain ⟨d,r,rfl,h1,h2⟩:=hasAllW_cons hsh
 obtain rfl:=hasAllW_nil h2
 obtain ⟨xs,rfl,h3⟩:=hasW_list h1
 obtain ⟨ns,rfl⟩:=items_int h3
 have hlen:ns.length<=n:=by
  unfold OpenLaw.pre at hc
  have h4:(WTm.not (.lt (.lit (.int (n:Int))) (.len (.arg 0)))).holds [] { args:=[.list (ns.map .int)] }=true:=by
   have h4:=(holds_andW hc).1
   rw [hn] at h4
   exact h4
  have h5:=condW_of h4 (w_not (w_lt w_lit (w_len_list (w_arg rfl))))
  rw [List.length_map] at h5
  refine Nat.le_of_not_lt fun q=>?_
  have q':(n:Int) < ((ns.length:Nat):Int):=by omega
  first
   | (rw [decide_eq_true q'] at h5; exact absurd h5 (by decide))
   | (simp at h5; omega)
 cases hwl with
 | cons w1 w2 =>
  cases w2
  cases w1 with
  | list ho hall=>exact ⟨_,_,ns,rfl,rfl,ho,V2 ns _ hall,hlen⟩
theorem Zbh (l:OpenLaw) (args:List WData):l.row.toRowW.claim.post args (.bool true) args=true :=
 postW_of (r:=l.row.toRowW) (X:=(true == true))
  (show WShape.has [] (.bool true) .bool=true by first | rfl | decide | simp [WShape.has,WShape.arms,WShape.armsAll])
  (show (WTm.eq .res (.lit (.bool true))).value [] { args:=args,res:=some (.bool true),after:=args }=some (.bool (true == true)) from w_eq_bool (w_res rfl) w_lit) rfl
theorem attach_call {l:OpenLaw} {n:Nat} {q:Program} {loose:List Str} {XP:(Str->Option Value)->Heap->Prop} {YP:World->Heap->Prop} {d:DefRec}
  (hn:l.most=some n) (hdf:d.params.defaults=[])
  (call:∀ (w:World) (s₀ s₁:Shared) (mg mb:Str->Option Value) (fa:Addr) (o:Obj) (pm cd doc:Value) (a:Addr) (vs:List Value) (ns:List Int),
   Ground q loose [] XP w s₀ mg mb s₁.heap->YP w s₁.heap ->
   s₁.heap.get? fa=some o->o.data = .func (docDef d.name d.params d.body d.scope pm cd doc)->s₁.heap.CodeRec cd d.name->mg d.name=some (.ref fa) ->
   s₁.heap.get? a=some { cls:=.type "list",data:=.seq vs.toArray }->IntsAre vs ns->ns.length<=n->s₁.gens = #[] ->
   codeAny (model l.prog w) callerA (.call (.ref fa) ⟨[.ref a],[]⟩) (fun r s'=>r = .ok (.ret (.bool true))/\OldK s₁.heap s'.heap/\s'.os=s₁.os/\AllBare s'.gens) s₁) :
  WalkO q loose XP YP l.row.toRowW d [] (fun f vs=>PySem.call f vs):=by
 intro w s₀ s₁ mg mb G Y fa o pm cd doc dV kV ho hd hcd hD hmg hg args vals as hpre hlay hrd hwl hlo
 obtain rfl:dV = .none:=Dflts.none hD hdf
 obtain rfl:kV = .none:=Dflts.noKw hD
 obtain ⟨a,vs,ns,rfl,rfl,hobj,hints,hlen⟩:=Vbf hn hpre hwl
 refine enter_call (codeAny_mono (call w s₀ s₁ mg mb fa o pm cd doc a vs ns G Y ho (fd_plain hd) hcd hmg hobj hints hlen hg) fun r s' hq=>?_)
 obtain ⟨rfl,h2,h3,h4⟩:=hq
 exact ⟨.inl ⟨.bool true,.bool true,[],rfl,fun _=>rfl,.bool true,Zbh l _,fun _=>⟨List.Pairwise.nil,fun _ hm=>(nomatch hm)⟩⟩,h2,h3,h4⟩
section
variable {prog:Program} {w:World} {A:Around} {E:Value->Shared->Prop} {s:Shared} {K:Frag}
noncomputable def ledger (h:Heap) (L d:Addr):List (Addr×Obj):=(List.range h.objs.size).filterMap fun a=>if a=L∨a=d then none else (h.get? a).map fun o=>(a,o)
end
end Att
namespace L2
open PySem PySem.Spec PyProof.Rows
theorem vals_ints:∀ {vs:List Value} {ns:List Int},IntsAre vs ns->Vals (ns.map V.int) vs
 | _,_,.nil=>.nil
 | _,_,.cons n t h=>.cons ⟨t,rfl⟩ (vals_ints h)
noncomputable def Only (H:Hp):Prop:=∀ b,H b=none∨∃ o xs,H b=some (.frz o (.lst xs))
theorem law_call {P:Program} {w:World} {K:PySem.W.Frag} {mg mb:Str->Option Value} {CX:CXT} {k:Nat} {fa a:Addr} {fd:FuncData} {x:Str} {sp:Sp} {s₁:Shared} {vs:List Value} {ns:List Int}
  (KX:K.In s₁.heap) (hns:s₁.heap.Ns mainGlobals mg) (hb:s₁.heap.Ns builtinsNs mb) (hbb:∀ x:Str,x≠"__name__"->mb x=bootBuiltins x) (hlim:s₁.heap.NoLimit) (hsy:∃ mm,s₁.heap.Ns sysModules mm) (hg:s₁.gens = #[])
  (ha:s₁.heap.get? a=some { cls:=.type "list",data:=.seq vs.toArray }) (hi:IntsAre vs ns) (hl:ns.length<=sizeLine) (hr:Room k callerA)
  (F:∀ base:Heap,K.In base->base.Ns mainGlobals mg->FnOk P w K mg base CX k fa fd [x] sp) (hbind:∀ (s:Shared) (u:Value),BindsTo s fd ⟨[u],[]⟩ [(x,u)])
  (hsp:∀ H:Hp,Only H->SqL K H a (ns.map V.int)->sp [.ref a] H (fun v _=>v = .bl true) fun _ _ _=>False)
  (hCX:∀ H e s',CX [] H s₁ (fun _ _ _=>False) e s'->False) :
  codeAny (model P w) callerA (.call (.ref fa) ⟨[.ref a],[]⟩) (fun r s'=>r = .ok (.ret (.bool true))/\OldK s₁.heap s'.heap/\s'.os=s₁.os/\AllBare s'.gens) s₁:=by
 have rv:=vals_ints hi
 have lenV:=hi.length
 have core:∀ H:Hp,Only H->SqL K H a (ns.map V.int)->HOk P w H s₁.heap->(∀ b,H b≠none->b=a)->(H a≠none->K.lookup a=none) ->
   codeAny (model P w) callerA (.call (.ref fa) ⟨[.ref a],[]⟩) (fun r s'=>r = .ok (.ret (.bool true))/\OldK s₁.heap s'.heap/\s'.os=s₁.os/\AllBare s'.gens) s₁:=by
  intro H hO hS hok hA hK
  have Vat:∀ {b:Addr} {o:Obj},s₁.heap.get? b=some o->H b=none->(hidT s₁.heap H).get? b=some o:=fun e n=>hidT_get e n
  have noA:∀ {b:Addr} {o:Obj} {es:Array DictEntry} {ep:Nat},s₁.heap.get? b=some o->o.data = .dict es ep->H b=none:=fun {b o es ep} e d=>by
   cases q:H b with
   | none=>rfl
   | some u =>
    have e':b=a:=hA b (by rw [q]; simp)
    subst e'
    rw [ha] at e; cases e
    have d':Data.seq vs.toArray _=Data.dict es ep:=d
    cases d'
  have nsK:∀ {b:Addr} {m:Str->Option Value},s₁.heap.Ns b m->(hidT s₁.heap H).Ns b m:=fun {b m} ⟨o,es,ep,e,d,r⟩=>⟨o,es,ep,Vat e (noA e d),d,r⟩
  have hKb:K.In (hidT s₁.heap H):=fun b o e=>Vat (KX b o e) (by
   cases q:H b with
   | none=>rfl
   | some u =>
    have e':b=a:=hA b (by rw [q]; simp)
    subst e'
    rw [hK (by rw [q]; simp)] at e; cases e)
  have hM:Mod K mg (hidT s₁.heap H):=⟨hKb,nsK hns,⟨mb,nsK hb,hbb⟩,let ⟨mc,h1,h2⟩:=hlim; ⟨mc,nsK h1,h2⟩,let ⟨mm,h1⟩:=hsy; ⟨mm,nsK h1⟩⟩
  have e0:Env0 P w K mg (hidT s₁.heap H) callerA [] s₁ H:=⟨rfl,hM,fun b o e=>of_hidT e,Nat.le_of_eq (Wbq _ _),trivial,fun b hb=>absurd (show b∈([]:List Addr) from hb) (by simp),hok,.of_eq hg,fun v q=>nomatch q⟩
  refine codeAny_mono ((F _ hKb (nsK hns)).run callerA [] s₁ H ⟨[.ref a],[]⟩ [.ref a] [.ref a] _ _ hr e0 (hbind s₁ (.ref a)) (.cons rfl .nil) (hsp H hO hS)) fun r s' h=>?_
  cases r with
  | error e=>exact (hCX H e s' h).elim
  | ok fl =>
   cases fl with
   | next=>exact False.elim h
   | brk=>exact False.elim h
   | cont=>exact False.elim h
   | ret u =>
    obtain ⟨v,H',os,bare,un,hok',r',q⟩:=h
    have q':v = .bl true:=q
    subst q'
    obtain rfl:u=Value.bool true:=r'
    refine ⟨rfl,OldK.of_keep fun b o e=>?_,os,bare⟩
    cases q:H b with
    | none=>exact un.keep b o e q (by intro z; exact absurd (show b∈([]:List Addr) from z) (by simp)) (by simp)
    | some u =>
     rcases hO b with z | ⟨ob,xs,z⟩
     ·rw [q] at z; cases z
     ·have z2:=un.frzs b ob _ z
      obtain ⟨e1,_⟩:=hok b _ z
      obtain ⟨e2,_⟩:=hok' b _ z2
      rw [e] at e1; cases e1
      exact e2
 cases hk:K.lookup a with
 | some o =>
  have e:=KX a o hk
  rw [ha] at e
  cases e
  refine core (fun _=>none) (fun _=>.inl rfl) (.inr ⟨_,vs.toArray,_,hk,rfl,rfl,rfl,by rw [List.size_toArray,lenV]; exact hl,by simpa using rv⟩) (fun b u z=>by have z':(none:Option HO)=some u:=z; cases z') (fun b z=>absurd rfl z) fun z=>absurd rfl z
 | none =>
  refine core (fun b=>if b=a then some (.frz { cls:=.type "list",data:=.seq vs.toArray } (.lst (ns.map V.int))) else none) (fun b=>?_) (.inl (.inr ⟨{ cls:=.type "list",data:=.seq vs.toArray },if_pos rfl⟩)) (fun b u z=>?_) (fun b z=>?_) fun _=>hk
  ·by_cases hb:b=a
   ·exact .inr ⟨_,_,if_pos hb⟩
   ·exact .inl (if_neg hb)
  ·by_cases hb:b=a
   ·have z':=(if_pos hb).symm.trans z
    cases z'
    subst hb
    exact ⟨ha,by rw [List.length_map]; exact hl,vs,_,rv,ha⟩
   ·have z':=(if_neg hb).symm.trans z
    cases z'
  ·by_cases hb:b=a
   ·exact hb
   ·exact absurd (if_neg hb) z
end L2
namespace L2
open PySem PySem.Spec PyProof.Rows
noncomputable abbrev KOf {K:PySem.W.Frag} {h:Heap} (_:K.In h):PySem.W.Frag:=K
theorem walk_of {l:PySem.W.OpenLaw} {n k:Nat} {q:Program} {loose:List Str} {XP:(Str->Option Value)->Heap->Prop} {YP:World->Heap->Prop} {d:DefRec} {K:Params->PySem.W.Frag} {CX:World->CXT} {sp:World->Sp} {x:Str}
  (hI:importsNone q=true) (hn:l.most=some n) (hn2:n<=sizeLine) (hdf:d.params.defaults=[]) (hr:Room k callerA)
  (hY:∀ (w:World) (h:Heap),YP w h->(K w.params).In h)
  (F:∀ (w:World) (mg:Str->Option Value) (fa:Addr) (h:Heap),(K w.params).In h->h.Ns mainGlobals mg->mg d.name=some (.ref fa) ->
   ∃ fd:FuncData,(∀ (s:Shared) (u:Value),BindsTo s fd ⟨[u],[]⟩ [(x,u)]) /\
    ∀ base:Heap,(K w.params).In base->base.Ns mainGlobals mg->FnOk l.prog w (K w.params) mg base (CX w) k fa fd [x] (sp w))
  (hsp:∀ (w:World) (H:Hp) (a:Addr) (ns:List Int),ns.length<=n->Only H->SqL (K w.params) H a (ns.map V.int)->sp w [.ref a] H (fun v _=>v = .bl true) fun _ _ _=>False)
  (hCX:∀ (w:World) (H:Hp) (s:Shared) (e:Value) (s':Shared),CX w [] H s (fun _ _ _=>False) e s'->False) :
  PySem.W.WalkO q loose XP YP l.row.toRowW d [] (fun f vs=>PySem.call f vs):=by
 refine Att.attach_call hn hdf fun w s₀ s₁ mg mb fa o pm cd doc a vs ns G Y ho hd hcd hmg hobj hints hlen hg=>?_
 have KX:=hY w _ Y
 obtain ⟨fd,hb,hF⟩:=F w mg fa _ KX G.T.g hmg
 exact law_call KX G.T.g G.T.b G.T.builtins G.T.nolimit (let ⟨mm,z,_⟩:=(G.T.seer hI).mods; ⟨mm,z⟩) hg hobj hints (Nat.le_trans hlen hn2) hr hF hb (fun H hO hS=>hsp w H a ns hlen hO hS) fun H e s'=>hCX w H s₁ e s'
end L2
/- THE LAST THEOREM (shape; LID, My.* are yours):
   My.Adr: a structure of the addresses that your layer names (classes, functions); My.Txt K t: a structure (Prop) of the equations over K;
   My.txt_mk : {K} {implicit addresses ..} (e1 : nsIn K mainGlobals "law" = some (some (.ref f))) (e2 : K.lookup f = some ⟨oc, od, .func (fnOf "law" "law" params body scope dV kV doc pm an cdv ct), sl⟩) (e3 : codeIn K cdv "law" = true) .. : ∃ t, My.Txt K t
set_option maxRecDepth 100000 in
set_option maxHeartbeats 0 in
theorem PySem.Challenge.cw_LID_holds : PySem.Challenge.rw_LID.Holds := by
 w_on; o_law; k_head; (case hw=>w_witness2)
 k_fill
 refine L2.walk_of (l:=PySem.Challenge.rw_LID) (n:=63) (k:=40) (x:="script") (CX:=fun w=>..) (sp:=fun _=>My.sp_law) rfl (by decide) rfl ⟨rfl,by decide,by decide⟩ (fun w h Y=>PySem.W.kIn_of Y) ?F ?S ?C
 case F =>
  intro w mg fa h KX G hmg
  have T:∃ t,My.Txt (L2.KOf KX) t:=by
   dsimp only [L2.KOf] -- K must stand as «<heap const> w.params» for k_is
   refine' My.txt_mk ?e1 ?e2 ?e3 ..
   (case e1=>PySem.W.k_is) -- in the order: a name -> its address -> its object -> its parts
   (case e2=>PySem.W.k_is)
   ..
  obtain ⟨t,T⟩:=T
  have e0:=hmg.symm.trans (PySem.W.mg_of KX G T.law)
  cases e0 -- fa is the law's own address
  exact ⟨_,fun s u=>.of_eq rfl,fun base kb nb=>My.law_fn T kb nb⟩ -- if «.of_eq rfl» comes too early: refine' ⟨_,?b,fun base kb nb=>My.law_fn T kb nb⟩; exact fun s u=>.of_eq rfl
 case S=>exact fun w H a ns hl hO hS=>..
 case C=>exact ..
(the tactic k_is has no namespace: write k_is) -/
namespace L2
open PySem PySem.Spec PyProof.Rows
noncomputable def Ym (s:Stmt):Arguments:=match s with
 | .FunctionDef _ a _ _ _ _ _ _ _ _=>a
 | _=>{ posonlyargs:=[],args:=[],vararg:=none,kwonlyargs:=[],kw_defaults:=[],kwarg:=none,defaults:=[] }
noncomputable def Yb (s:Stmt):List Stmt:=match s with
 | .FunctionDef _ _ b _ _ _ _ _ _ _=>b
 | _=>[]
noncomputable def Xa (s:Stmt):Scope:=match s with
 | .FunctionDef _ _ _ _ _ _ sc _ _ _=>sc
 | _=>{ kind:=.function,names:=[],isGenerator:=false,isCoroutine:=false }
noncomputable abbrev CX0:CXT:=fun _ _ _ _ _ _=>False
noncomputable abbrev E0:XK:=fun _ _ _=>False
structure Fun (K:PySem.W.Frag) (x qual:Str) (st:Stmt) (f:Addr) (fd:FuncData):Prop where
 ex:∃ (oc:Value) (od:Option Addr) (kV doc pm:Value) (an:Option Addr) (cdv ct:Value) (osl:Array (Option Value)),
  fd=PySem.W.fnOf x qual (Ym st) (Yb st) (Xa st) .none kV doc pm an cdv ct/\K.lookup f=some ⟨oc,od,.func fd,osl⟩/\PySem.W.codeIn K cdv qual=true
 kp:PySem.W.keepIn K (.ref f)=true
section
variable {P:Program} {w:World} {K:PySem.W.Frag} {mg:Str->Option Value} {base:Heap}
theorem Fun.ok {x qual:Str} {st:Stmt} {f:Addr} {fd:FuncData} {N ps:List Str} {k:Nat} {sp:Sp} (F:Fun K x qual st f fd) (S:FnScope N ps (Xa st)) (len:∀ vs H Q E,sp vs H Q E->vs.length=ps.length)
  (hbody:∀ (cdv:Value) (A:Around) (outer:List Env) (s:Shared) (H:Hp) (vs:List V) (Q:VK) (E:XK),Room k (A.deeper (envOfC qual (Xa st) s.heap.objs.size f cdv))->sp vs H Q E ->
   ∃ t,PSs (cxOf CX0 P w K mg base N qual (Xa st) f cdv A outer s H E).nox (Yb st) t/\t { nx:=fun _ H'=>Q .non H',rt:=Q } (start N vs) H):FnOk P w K mg base CX0 (k + 1) f fd ps sp:=by
 obtain ⟨oc,od,kV,doc,pm,an,cdv,ct,osl,rfl,lk,hcd⟩:=F.ex
 refine fn_of lk hcd S len fun A outer s H vs Q E hr hsp=>?_
 obtain ⟨t,h,q⟩:=hbody cdv A outer s H vs Q E hr hsp
 exact ⟨t,h.nox,q⟩
theorem Fun.binds {x qual:Str} {st:Stmt} {f:Addr} {fd:FuncData} {ps:List Str} (F:Fun K x qual st f fd)
  (h:∀ (kV doc pm:Value) (an:Option Addr) (cdv ct:Value) (us:List Value),us.length=ps.length->bindArgs (PySem.W.fnOf x qual (Ym st) (Yb st) (Xa st) .none kV doc pm an cdv ct) ⟨us,[]⟩=pure (ps.zip us)):Binds K fd ps []:=by
 obtain ⟨oc,od,kV,doc,pm,an,cdv,ct,osl,rfl,lk,hcd⟩:=F.ex
 exact .all (h kV doc pm an cdv ct)
theorem fun_mk {x qual:Str} {st:Stmt} {f:Addr} {oc:Value} {od an:Option Addr} {osl:Array (Option Value)} {kV doc pm cdv ct:Value} (l:K.lookup f=some ⟨oc,od,.func (PySem.W.fnOf x qual (Ym st) (Yb st) (Xa st) .none kV doc pm an cdv ct),osl⟩)
  (c:PySem.W.codeIn K cdv qual=true) (k:PySem.W.keepIn K (.ref f)=true):Fun K x qual st f (PySem.W.fnOf x qual (Ym st) (Yb st) (Xa st) .none kV doc pm an cdv ct):=⟨⟨oc,od,kV,doc,pm,an,cdv,ct,osl,rfl,l,c⟩,k⟩
end
section
variable {X:Cx}
end
noncomputable def Same (H H':Hp):Prop:=∀ b o,H b=some o->H' b=some o
theorem Same.refl (H:Hp):Same H H:=fun _ _ h=>h
theorem Same.trans {H H1 H2:Hp} (a:Same H H1) (b:Same H1 H2):Same H H2:=fun c o h=>b c o (a c o h)
theorem Same.free {H H':Hp} (e:Same H H') {l:Addr} (h:H' l=Option.none):H l=Option.none:=by
 cases q:H l with
 | none=>rfl
 | some o =>
  rw [e l o q] at h
  cases h
theorem Same.seq {K:PySem.W.Frag} {H H':Hp} {a:Addr} {xs:List V} (e:Same H H') (h:SqL K H a xs):SqL K H' a xs:=by
 rcases h with (h | ⟨o,h⟩) | h
 ·exact .inl (.inl (e _ _ h))
 ·exact .inl (.inr ⟨o,e _ _ h⟩)
 ·exact .inr h
end L2
end
section
namespace L2
open PySem PySem.Spec PyProof.Rows
section
variable {κ:Type} [DecidableEq κ]
noncomputable def valV (kvs:List (κ×V)) (k:κ):Option V:=(kvs.find? fun kv=>decide (kv.1=k)).map (·.2)
noncomputable def putK (kvs:List (κ×V)) (k:κ) (v:V):List (κ×V) :=
 if (kvs.any fun kv=>decide (kv.1=k))=true then kvs.map (fun kv=>if kv.1=k then (kv.1,v) else kv) else kvs ++ [(k,v)]
noncomputable def dropK (kvs:List (κ×V)) (k:κ):List (κ×V):=kvs.filter fun kv=>decide (kv.1≠k)
theorem Xaa {p:κ×V} {r:List (κ×V)} {k:κ} (e:p.1=k):valV (p :: r) k=some p.2:=by simp [valV,List.find?_cons,e]
theorem Waa {p:κ×V} {r:List (κ×V)} {k:κ} (e:¬ p.1=k):valV (p :: r) k=valV r k:=by simp [valV,List.find?_cons,e]
theorem Xx (k:κ):∀ kvs:List (κ×V),(kvs.any fun kv=>decide (kv.1=k))=(valV kvs k).isSome
 | []=>rfl
 | p :: r=>by
  rw [List.any_cons]
  by_cases e:p.1=k
  ·simp only [Xaa e,decide_eq_true e,Bool.true_or,Option.isSome_some]
  ·rw [Waa e,decide_eq_false e,Bool.false_or]; exact Xx k r
theorem RelO.isSome_eq {o:Option V} {u:Option Value} (r:RelO o u):o.isSome=u.isSome:=by
 cases o with
 | none=>cases u with
  | none=>rfl
  | some _=>exact (show False from r).elim
 | some _=>cases u with
  | none=>exact (show False from r).elim
  | some _=>rfl
theorem RelO.getD {o:Option V} {u:Option Value} {d:V} {d':Value} (r:RelO o u) (rd:RelV d d'):RelV (o.getD d) (u.getD d'):=by
 cases o with
 | none=>cases u with
  | none=>exact rd
  | some _=>exact (show False from r).elim
 | some _=>cases u with
  | none=>exact (show False from r).elim
  | some _=>exact r
theorem KV.val {kvs:List (κ×V)} {vs:List (κ×Value)} (r:KV kvs vs) (k:κ):RelO (valV kvs k) (valueAt vs k):=by
 unfold KV at r
 induction r with
 | nil=>exact True.intro
 | @cons p q ps qs h t ih =>
  obtain ⟨h1,h2⟩:=h
  by_cases e:p.1=k
  ·have e':q.1=k:=h1.symm.trans e
   have b:valueAt (q :: qs) k=some q.2:=by simp [valueAt,List.find?_cons,e']
   rw [Xaa e,b]; exact h2
  ·have e':¬ q.1=k:=fun z=>e (h1.trans z)
   have b:valueAt (q :: qs) k=valueAt qs k:=by simp [valueAt,List.find?_cons,e']
   rw [Waa e,b]; exact ih
theorem KV.any {kvs:List (κ×V)} {vs:List (κ×Value)} (r:KV kvs vs) (k:κ):(kvs.any fun kv=>decide (kv.1=k))=vs.any fun kv=>decide (kv.1=k):=by
 unfold KV at r
 induction r with
 | nil=>rfl
 | cons h t ih=>rw [List.any_cons,List.any_cons,ih,h.1]
theorem KV.repl {kvs:List (κ×V)} {vs:List (κ×Value)} (r:KV kvs vs) (k:κ) {y:V} {u:Value} (ry:RelV y u) :
  KV (kvs.map fun kv=>if kv.1=k then (kv.1,y) else kv) (vs.map fun kv=>if kv.1=k then (kv.1,u) else kv):=by
 unfold KV at r ⊢
 induction r with
 | nil=>exact .nil
 | @cons p q ps qs h t ih =>
  rw [List.map_cons,List.map_cons]
  refine .cons ?_ ih
  obtain ⟨h1,h2⟩:=h
  by_cases e:p.1=k
  ·rw [if_pos e,if_pos (h1.symm.trans e)]; exact ⟨h1,ry⟩
  ·rw [if_neg e,if_neg (fun z=>e (h1.trans z))]; exact ⟨h1,h2⟩
theorem KV.put {kvs:List (κ×V)} {vs:List (κ×Value)} (r:KV kvs vs) (k:κ) {y:V} {u:Value} (ry:RelV y u):KV (putK kvs k y) (stored vs k u):=by
 unfold putK stored
 rw [r.any k]
 by_cases e:(vs.any fun kv=>decide (kv.1=k))=true
 ·rw [if_pos e,if_pos e]; exact r.repl k ry
 ·rw [if_neg e,if_neg e]; exact Paired.snoc r ⟨rfl,ry⟩
theorem KV.drop {kvs:List (κ×V)} {vs:List (κ×Value)} (r:KV kvs vs) (k:κ):KV (dropK kvs k) (without vs k):=by
 unfold KV at r ⊢
 unfold dropK without
 induction r with
 | nil=>exact .nil
 | @cons p q ps qs h t ih =>
  obtain ⟨h1,h2⟩:=h
  rw [List.filter_cons,List.filter_cons]
  by_cases e:p.1=k
  ·have a:¬ decide (p.1≠k)=true:=by simp [e]
   have b:¬ decide (q.1≠k)=true:=by simp [h1.symm.trans e]
   rw [if_neg a,if_neg b]; exact ih
  ·have e':¬ q.1=k:=fun z=>e (h1.trans z)
   have a:decide (p.1≠k)=true:=by simp [e]
   have b:decide (q.1≠k)=true:=by simp [e']
   rw [if_pos a,if_pos b]; exact .cons ⟨h1,h2⟩ ih
theorem KV.length {kvs:List (κ×V)} {vs:List (κ×Value)} (r:KV kvs vs):kvs.length=vs.length:=Paired.length r
end
theorem kV_is {P:Program} {w:World} {k:Key} {u:Value} (r:RelV (kV k) u):(Ve P w).is k u=true:=by
 cases k with
 | inl i=>obtain ⟨t,e⟩:=(show ∃ t,u=Value.int i t from r); subst e; exact Waq P w i t
 | inr x=>obtain ⟨t,e⟩:=(show ∃ t,u=Value.str x t from r); subst e; exact Xaq P w x t
theorem Vai {P:Program} {w:World}:∀ {ks:List Key} {us:List Value},Vals (ks.map kV) us->ItemsAre (Ve P w) ks us
 | [],_,r=>by rw [List.map_nil] at r; cases r; exact .nil
 | k :: ks,_,r=>by
  rw [List.map_cons] at r
  cases r with
  | cons h t=>exact .cons (kV_is h) (Vai t)
noncomputable abbrev KT (H:Hp):List (List Key×V)->List (List Key×Addr×Value)->Prop:=Paired fun p q=>p.1=q.1/\H q.2.1=some (.tup (p.1.map kV))/\RelV p.2 q.2.2
theorem KT.val {H:Hp} {kvs:List (List Key×V)} {xs:List (List Key×Addr×Value)} (r:KT H kvs xs) (k:List Key):RelO (valV kvs k) ((atKey xs k).map (·.2)):=by
 induction r with
 | nil=>exact True.intro
 | @cons p q ps qs h t ih =>
  obtain ⟨h1,_,h2⟩:=h
  by_cases e:p.1=k
  ·have e':q.1=k:=h1.symm.trans e
   have b:atKey (q :: qs) k=some q.2:=by simp [atKey,List.find?_cons,e']
   rw [Xaa e,b]; exact h2
  ·have e':¬ q.1=k:=fun z=>e (h1.trans z)
   have b:atKey (q :: qs) k=atKey qs k:=by simp [atKey,List.find?_cons,e']
   rw [Waa e,b]; exact ih
theorem KT.repl {H:Hp} {kvs:List (List Key×V)} {xs:List (List Key×Addr×Value)} (r:KT H kvs xs) (k:List Key) {y:V} {u:Value} (ry:RelV y u) :
  KT H (kvs.map fun kv=>if kv.1=k then (kv.1,y) else kv) (xs.map (putAt k u)):=by
 induction r with
 | nil=>exact .nil
 | @cons p q ps qs h t ih =>
  rw [List.map_cons,List.map_cons]
  refine .cons ?_ ih
  obtain ⟨h1,h2,h3⟩:=h
  unfold putAt
  by_cases e:p.1=k
  ·rw [if_pos e,if_pos (h1.symm.trans e)]; exact ⟨h1,h2,ry⟩
  ·rw [if_neg e,if_neg (fun z=>e (h1.trans z))]; exact ⟨h1,h2,h3⟩
theorem KT.put {H:Hp} {kvs:List (List Key×V)} {xs:List (List Key×Addr×Value)} (r:KT H kvs xs) (k:List Key) {b:Addr} {y:V} {u:Value} (hb:H b=some (.tup (k.map kV))) (ry:RelV y u) :
  KT H (putK kvs k y) (storedH xs k b u):=by
 have e:(kvs.any fun kv=>decide (kv.1=k))=(atKey xs k).isSome:=by
  rw [Xx,(r.val k).isSome_eq,Option.isSome_map]
 unfold putK storedH
 rw [e]
 by_cases q:(atKey xs k).isSome=true
 ·rw [if_pos q,if_pos q]; exact r.repl k ry
 ·rw [if_neg q,if_neg q]; exact Paired.snoc r ⟨rfl,hb,ry⟩
theorem KT.keeps {H H':Hp} {kvs:List (List Key×V)} {xs:List (List Key×Addr×Value)} (r:KT H kvs xs) (ht:∀ b ys,H b=some (.tup ys)->H' b=some (.tup ys)):KT H' kvs xs :=
 Paired.mapP r fun _ _ z=>⟨z.1,ht _ _ z.2.1,z.2.2⟩
section
variable {P:Program} {w:World} {H:Hp} {h:Heap} {a:Addr}
theorem rd_of {u:HO} (ok:HOk P w H h) (e:Rd H a u):ObjOk P w H h a u:=e.ok ok
theorem dk_rd {kvs:List (Key×V)} (ok:HOk P w H h) (e:Rd H a (.dK kvs)):kvs.length<=sizeLine/\(a == sysModules)=false/\∃ vs,KV kvs vs/\h.DictOf (Ve P w) a vs :=
 show ObjOk P w H h a (.dK kvs) from rd_of ok e
theorem Vbn {ks:List Key} (ok:HOk P w H h) (e:H a=some (.tup (ks.map kV))):(tupleKind (Ve P w)).is h ks a:=by
 obtain ⟨_,its,r,o,h1,h2,n,h3,_⟩:=(show ObjOk P w H h a (.tup (ks.map kV)) from ok a _ e)
 exact ⟨o,its.toArray,n,h1,h2,h3,by simpa using Vai r⟩
theorem dt_rd {kvs:List (List Key×V)} (ok:HOk P w H h) (e:Rd H a (.dT kvs)):kvs.length<=sizeLine/\(a == sysModules)=false /\
  ∃ xs,KT H kvs xs/\h.DictOfH (tupleKind (Ve P w)) a xs:=by
 obtain ⟨z,y,xs,r,o,es,ep,h1,h2,h3,h4,h5⟩:=(show ObjOk P w H h a (.dT kvs) from rd_of ok e)
 refine ⟨z,y,xs,r,o,es,ep,h1,h2,h3,h4,fun x hx=>?_,h5⟩
 have all:∀ {l:List (List Key×V)} {m:List (List Key×Addr×Value)},KT H l m->∀ x∈m,(tupleKind (Ve P w)).is h x.1 x.2.1:=by
  intro l m q
  induction q with
  | nil=>intro x hx; exact nomatch hx
  | @cons p q ps qs hq t ih =>
   intro x hx
   rcases List.mem_cons.mp hx with e | hx
   ·subst e
    exact Vbn ok (by rw [<- hq.1]; exact hq.2.1)
   ·exact ih x hx
 exact all r x hx
end
noncomputable def DGet (H:Hp) (a:Addr) (y:V) (r:Option V):Prop :=
 (∃ kvs k,Rd H a (.dK kvs)/\y=kV k/\r=valV kvs k)∨∃ kvs k b,Rd H a (.dT kvs)/\y = .ref b/\H b=some (.tup (k.map kV))/\r=valV kvs k
noncomputable def DPut (H:Hp) (a:Addr) (y v:V) (H':Hp):Prop :=
 (∃ kvs k,H a=some (.dK kvs)/\y=kV k/\kvs.length < sizeLine/\H'=upd H a (.dK (putK kvs k v))) ∨
 ∃ kvs k b,H a=some (.dT kvs)/\y = .ref b/\H b=some (.tup (k.map kV))/\kvs.length < sizeLine/\H'=upd H a (.dT (putK kvs k v))
theorem DGet.k {H:Hp} {a:Addr} {kvs:List (Key×V)} {k:Key} (e:H a=some (.dK kvs)):DGet H a (kV k) (valV kvs k):=.inl ⟨kvs,k,.inl e,rfl,rfl⟩
theorem DGet.t {H:Hp} {a b:Addr} {kvs:List (List Key×V)} {k:List Key} (e:H a=some (.dT kvs)) (eb:H b=some (.tup (k.map kV))):DGet H a (.ref b) (valV kvs k):=.inr ⟨kvs,k,b,.inl e,rfl,eb,rfl⟩
theorem DPut.k {H:Hp} {a:Addr} {kvs:List (Key×V)} {k:Key} {v:V} (e:H a=some (.dK kvs)) (hl:kvs.length < sizeLine):DPut H a (kV k) v (upd H a (.dK (putK kvs k v))):=.inl ⟨kvs,k,e,rfl,hl,rfl⟩
theorem DPut.t {H:Hp} {a b:Addr} {kvs:List (List Key×V)} {k:List Key} {v:V} (e:H a=some (.dT kvs)) (eb:H b=some (.tup (k.map kV))) (hl:kvs.length < sizeLine) :
  DPut H a (.ref b) v (upd H a (.dT (putK kvs k v))):=.inr ⟨kvs,k,b,e,rfl,eb,hl,rfl⟩
section
variable {X:Cx} {pins:List (Addr×Obj)} {σ:St} {H:Hp} {s:Shared} {a:Addr} {y v:V} {u r:Value} {o:Option V} {A:Around} {E:Value->Shared->Prop}
theorem d_in {Q:Value->Shared->Prop} (hu:A.units + 1 < cLine) (I:Inv X pins σ H s) (g:DGet H a y o) (ry:RelV y u) (h:∀ s',Inv X pins σ H s'->Q (.bool o.isSome) s') :
  wpAny (model X.prog X.w) A (compareOp .In u (.ref a)) Q E s:=by
 rcases g with ⟨kvs,k,e,ey,l⟩ | ⟨kvs,k,b,e,ey,eb,l⟩
 ·subst ey
  obtain ⟨z,hd,vs,rel,dd⟩:=dk_rd I.hok e
  refine wpAny_in_of (kV_is ry) hd dd.mapOf ?_
  rw [<- (rel.val k).isSome_eq,<- l]
  exact h _ (I.tok _)
 ·subst ey
  cases (show u=Value.ref b from ry)
  obtain ⟨z,hd,xs,rel,dd⟩:=dt_rd I.hok e
  refine wpAny_in_heap (tupleKind_room_in1 hu) (Vbn I.hok eb) hd dd ?_
  have q:=(rel.val k).isSome_eq
  rw [Option.isSome_map] at q
  rw [<- q,<- l]
  exact h _ (I.tok _)
theorem d_notIn {Q:Value->Shared->Prop} (hu:A.units + 1 < cLine) (I:Inv X pins σ H s) (g:DGet H a y o) (ry:RelV y u) (h:∀ s',Inv X pins σ H s'->Q (.bool (!o.isSome)) s') :
  wpAny (model X.prog X.w) A (compareOp .NotIn u (.ref a)) Q E s:=by
 rcases g with ⟨kvs,k,e,ey,l⟩ | ⟨kvs,k,b,e,ey,eb,l⟩
 ·subst ey
  obtain ⟨z,hd,vs,rel,dd⟩:=dk_rd I.hok e
  refine wpAny_notIn_of (kV_is ry) hd dd.mapOf ?_
  rw [<- (rel.val k).isSome_eq,<- l]
  exact h _ (I.tok _)
 ·subst ey
  cases (show u=Value.ref b from ry)
  obtain ⟨z,hd,xs,rel,dd⟩:=dt_rd I.hok e
  refine wpAny_notIn_heap (tupleKind_room_in1 hu) (Vbn I.hok eb) hd dd ?_
  have q:=(rel.val k).isSome_eq
  rw [Option.isSome_map] at q
  rw [<- q,<- l]
  exact h _ (I.tok _)
end
section
variable {X:Cx} {pins:List (Addr×Obj)} {σ:St} {H:Hp} {s:Shared} {a:Addr} {kvs:List (Key×V)} {k:Key} {u:Value} {A:Around} {E:Value->Shared->Prop}
theorem d_len {Q:Value->Shared->Prop} (I:Inv X pins σ H s) (e:Rd H a (.dK kvs)) (h:∀ t s',Inv X pins σ H s'->Q (.int kvs.length t) s'):wpAny (model X.prog X.w) A (call (.builtin "len") [.ref a]) Q E s:=by
 obtain ⟨z,hd,vs,rel,dd⟩:=dk_rd I.hok e
 refine call_len_dict hd dd (by rw [<- rel.length]; rw [sizeLine_eq] at z; omega) ?_
 rw [<- rel.length]
 exact h _ _ (I.tok _)
end
section
variable {X:Cx} {o i e value:Expr} {pos pos' tpos:Pos} {td ty tv:TE}
end
section
variable {X:Cx} {pos:Pos}
end
section
variable {X:Cx} {pins:List (Addr×Obj)} {σ:St} {H:Hp} {s:Shared} {a:Addr} {y d:V} {u r:Value} {o:Option V} {A:Around} {E:Value->Shared->Prop}
end
section
variable {X:Cx} {o e f:Expr} {apos cpos:Pos} {td ty tx:TE}
end
section
variable {X:Cx} {pins:List (Addr×Obj)} {σ:St} {H:Hp} {s:Shared} {a:Addr} {kvs:List (Key×V)} {A:Around} {E:Value->Shared->Prop}
end
section
variable {X:Cx} {pins:List (Addr×Obj)} {σ:St} {H:Hp} {s:Shared} {a:Addr} {y:V} {u:Value} {A:Around} {E:Value->Shared->Prop}
end
end L2
end
section
namespace DW
open PySem PySem.Spec PyProof.Rows PyProof.Rows.KTD L2
noncomputable def W5 (K:PySem.W.Frag) (a:Addr):List (Str×Addr):=match K.lookup a with
 | some o=>(match o.data with
  | .dict es _=>es.toList.filterMap fun e=>(match e.key with | .str x _=>(match e.val with | .ref f=>some (x,f) | _=>none) | _=>none)
  | _=>[])
 | none=>[]
noncomputable def refB (f:Addr) (v:Value):Bool:=v == .ref f
noncomputable def dicOk (K:PySem.W.Frag) (a:Addr):Bool:=tabLook refB (fun b=>K.lookup b) a (W5 K a) && (W5 K a).all fun p=>PySem.W.keepIn K (.ref p.2)
section
variable {prog:Program} {w:World} {A:Around} {E:Value->Shared->Prop} {s:Shared} {K:PySem.W.Frag} {a:Addr} {k:Str} {tk:Tok}
theorem dic_tab (h:dicOk K a=true) (X:K.In s.heap):TabOf (fun f v=>v=Value.ref f) s.heap a (W5 K a) :=
 tab_of_look (fun f v e=>eq_of_beq e) X (Bool.and_eq_true_iff.mp h).1
theorem Yb1 {δ:Type} {R:δ->Value->Prop} {D:List (Str×δ)} (T:TabOf R s.heap a D):s.TypeIs (.ref a) "dict":=by
 obtain ⟨_,o,_,_,ho,hc,_⟩:=T
 exact ⟨o,ho,hc.1⟩
theorem tab_get {δ:Type} {R:δ->Value->Prop} {D:List (Str×δ)} {Q:Option Value->Shared->Prop} (T:TabOf R s.heap a D) (h1:∀ d v,datumAt k D=some d->R d v->Q (some v) { s with toks:=s.toks + 1 })
  (h2:datumAt k D=none->Q none { s with toks:=s.toks + 1 }):wpAny (model prog w) A (dictGet a (.str k tk)) Q E s:=by
 obtain ⟨_,o,⟨l⟩,ep,ho,hc,hd,hr⟩:=T
 unfold dictGet
 refine wpAny_holding (wpAny_bind (wpAny_pyHash_str (wpAny_bind (kt_dictFind_strs (s:={ s with toks:=s.toks + 1 }) ho hd (by simpa using hr.exact) ?_))))
 have hq:Q (findBy (fun k v=>v.isStr k) ⟨l⟩ k) { s with toks:=s.toks + 1 }:=by
  rw [show findBy (fun k v=>v.isStr k) ⟨l⟩ k=(l.find? fun e=>e.key.isStr k).map (·.val) by simp [findBy]]
  cases e:datumAt k D with
  | some d=>obtain ⟨v,hv,hf⟩:=hr.find_some e; rw [hv]; exact h1 d v e hf
  | none=>rw [hr.find_none e]; exact h2 e
 rw [findBy_of_findIdx?] at hq
 cases hi:(⟨l⟩:Array DictEntry).findIdx? fun e=>e.key.isStr k with
 | none=>rw [hi] at hq; exact wpAny_pure hq
 | some i=>rw [hi] at hq; exact wpAny_bind (wpAny_dictEntries (s:={ s with toks:=s.toks + 1 }) ho hd (wpAny_pure hq))
theorem tab_in {δ:Type} {R:δ->Value->Prop} {D:List (Str×δ)} {Q:Value->Shared->Prop} (T:TabOf R s.heap a D) (h:Q (.bool (inKeys k D)) { s with toks:=s.toks + 1 }) :
  wpAny (model prog w) A (compareOp .In (.str k tk) (.ref a)) Q E s:=by
 have hT:=Yb1 T
 show wpAny _ _ (do return .bool (<- contains (.ref a) (.str k tk))) Q E s
 unfold contains
 refine wpAny_bind (wpAny_holding (wpAny_bind (wpAny_specialOf hT F.slot_dict_contains.lookup ?_)))
 show wpAny _ _ (if (some (Value.builtin "dict.__contains__") == some Value.none)=true then _ else _) _ E s
 rw [if_neg (by rw [beq_builtin_none]; exact Bool.false_ne_true)]
 refine wpAny_bind (wpAny_callSpecialUnlessNone?_slot (name:=Str.ofString "__contains__") hT F.slot_dict_contains (wpAny_call_entry F.slot_dict_contains hT entry_dict_contains ?_ (args_dict_contains _ _)))
 show wpAny _ _ (dictGet a (.str k tk) >>= _) _ _ s
 refine wpAny_bind (tab_get T (fun d v e _=>?_) fun hn=>?_)
 ·rw [show inKeys k D=true by rw [<- isSome_datumAt,e]; rfl] at h
  exact wpAny_pure ⟨_,rfl,wpAny_truthy_bool (wpAny_pure h)⟩
 ·rw [show inKeys k D=false by rw [<- isSome_datumAt,hn]; rfl] at h
  show wpAny _ _ (Builtin.Dict.pendingKey? a (.str k tk) >>= _) _ _ _
  exact wpAny_bind (wpAny_pendingKey_other T.1 (wpAny_pure ⟨_,rfl,wpAny_truthy_bool (wpAny_pure h)⟩))
end
theorem X8 {k:Str}:∀ {D:List (Str×Addr)},inKeys k D=(D.map fun p=>p.1.cps.toList).contains k.cps.toList
 | []=>rfl
 | p :: D=>by
  show (decide (k=p.1) || inKeys k D)=_
  rw [X8,List.map_cons,List.contains_cons]
  congr 1
  by_cases h:k=p.1
  ·subst h; simp
  ·have:¬ k.cps.toList=p.1.cps.toList:=fun e=>h (by obtain ⟨⟨a⟩⟩:=k; obtain ⟨⟨b⟩,d⟩:=p; simp at e; subst e; rfl)
   simp [h]; exact fun e=>this (by rw [e])
section
variable {X:Cx} {x:Str} {a:Addr} {i:Expr} {p pos:Pos} {ti:TE}
noncomputable def tKey (ti:TE) (R:Str->Hp->VK->Prop):TE:=fun σ H Q=>ti σ H fun y H1=>∃ t,y = .str t/\R t H1 Q
theorem pc_din (hg:Gl X x) (hm:X.mg x=some (.ref a)) (hd:dicOk X.K a=true) (hi:PE X i ti) (hdb:(x == ("__debug__" : Str))=false) :
  PC X .In i (.Name x p) (tKey ti fun t H Q=>Q (.bl (inKeys t (W5 X.K a))) H):=by
 refine fun pins s σ H Q I h=>thn (hi pins s σ H _ I h) fun u s1 ⟨y,H1,I1,ry,t,e,q⟩=>Vn I1 hg hm ?_ hdb
 subst e
 obtain ⟨tk,rfl⟩:=ry
 exact tab_in (dic_tab hd I1.kIn) ⟨.bl _,H1,I1.tok _,rfl,q⟩
end
end DW
end
section
set_option maxHeartbeats 2000000
namespace DW
open PySem PySem.Spec PyProof.Rows L2
noncomputable def TrX (B:Heap) (e:Addr) (ob:Obj) (vs:Array Value) (fl:Value) (h:Heap):Prop :=
 ∃ T oT ts,h.get? e=some { ob with data:=.fields (vs.setIfInBounds 1 (.ref T)) }/\B.get? T=none/\T≠e/\h.get? T=some oT/\oT.data = .fields ts/\ts[3]? = some fl
structure FlyX (B:Heap) (l:List Env) (e:Addr) (ob:Obj) (vs:Array Value) (fl:Value) (h:Heap):Prop where
 stay:B.StaysIn h
 new:B.get? e=none
 fun_:h.FunFrames B l
 tr:TrX B e ob vs fl h
 two:2 < vs.size
theorem TrX.there {B h:Heap} {e:Addr} {ob:Obj} {vs:Array Value} {fl:Value} (x:TrX B e ob vs fl h):∃ T,h.get? e=some { ob with data:=.fields (vs.setIfInBounds 1 (.ref T)) }:=let ⟨T,_,_,q,_⟩:=x; ⟨T,q⟩
theorem Z7 {h:Heap} {b e:Addr} {o oe:Obj} {vs:Array Value} (hb:h.get? b=some o) (hn:∀ vs,o.data≠.fields vs) (he:h.get? e=some oe) (hd:oe.data = .fields vs):b≠e:=fun z=>by
 subst z; rw [hb] at he; cases he; exact hn vs hd
theorem Xbj {B:Heap} {b e:Addr} {o:Obj} (hb:B.get? b=some o) (he:B.get? e=none):b≠e:=fun z=>by subst z; rw [hb] at he; cases he
section
variable {M:Model} {A:Around} {E:Value->Shared->Prop} {s:Shared} {B:Heap} {env:Env} {outer:List Env} {L e:Addr} {ob:Obj} {ws vs:Array Value} {Q:Unit->Shared->Prop}
theorem Vg {h:Heap} {a:Addr} {f:Obj->Obj}:∀ b,b≠a->(h.update a f).get? b=h.get? b:=fun b hb=>Heap.get?_update_other _ _ (Ne.symm hb)
theorem Zbt {hd:Value} {hn:Bool} (fr:A.frames=some (env :: outer)) (F:s.heap.FunFrames B (env :: outer)) (hf:env.frame=some L) (he:s.heap.get? e=some { ob with data:=.fields ws }) (st:B.StaysIn s.heap) (new:B.get? e=none)
  (z:2 < ws.size) (k:∀ h',FlyX B (env :: outer) e ob ws (rawInt L) h'->s.heap.UpToSlots h'->Q () { s with heap:=h' }) :
  wpAny M A (do let a <- frameOf env; let pl <- entryPlaceOf L hn; let b <- EntryCells.newEntry hd a .none (rawInt L) .none pl; setField (.ref e) 1 b) Q E s:=by
 have eo:e ∉ (env :: outer).filterMap (·.frame):=fun m=>let ⟨_,o,ho,nf⟩:=F.mem m; by rw [he] at ho; cases ho; exact nf ws rfl
 refine wpAny_bind (wpAny_frameOf_fun fr F hf fun g1 sl1=>wpAny_bind (wpAny_entryPlaceOf fun pl ip=>?_))
 unfold EntryCells.newEntry newFields
 refine wpAny_bind (wpAny_newObj_type ?_ (ip.sizeOk5 _ _ _ _ _))
 have e1:g1.get? e=some { ob with data:=.fields ws }:=by rw [sl1.2.1 e eo]; exact he
 have st1:B.StaysIn g1:=fun b o q=>by
  rw [sl1.2.1 b fun m=>(by rw [(F.mem m).1] at q; cases q)]; exact st b o q
 generalize hN:({ cls:=.type "traceback",dict:=none,data:=.fields ([hd,.ref L,.none,rawInt L,.none] ++ (if pl.isEmpty then List.replicate 6 Value.none else pl)).toArray }:Obj)=N
 have dN:N.data = .fields ([hd,.ref L,.none,rawInt L,.none] ++ (if pl.isEmpty then List.replicate 6 Value.none else pl)).toArray:=by rw [<- hN]
 have nN:N.isFreed=false:=by rw [<- hN]; rfl
 have lt:=Heap.lt_size e1
 have Te:g1.objs.size≠e:=Nat.ne_of_gt lt
 refine wpAny_setField (Heap.get?_push_of_some (h:=g1) N e1) rfl (by omega) (k _ ⟨?_,new,?_,?_,z⟩ ?_)
 ·intro b o q
  rw [Vg b (Xbj q new)]
  exact Heap.get?_push_of_some _ (st1 b o q)
 ·refine F.of_keeps fun b o hb nf=>?_
  obtain ⟨sl,q⟩:=sl1.2.2 b o hb
  exact ⟨{ o with slots:=sl },by rw [Vg b (Z7 hb nf he rfl)]; exact Heap.get?_push_of_some _ q,rfl⟩
 ·refine ⟨g1.objs.size,N,_,Heap.get?_update_self _ (Heap.get?_push_of_some (h:=g1) N e1) rfl,st1.fresh,Te,?_,dN,?_⟩
  ·rw [Vg _ Te]; exact Heap.get?_push_size g1 nN
  ·rcases ip with rfl | ⟨_,_,_,_,_,_,_,rfl⟩ <;> simp
 ·intro b o hb nf
  obtain ⟨sl,q⟩:=sl1.2.2 b o hb
  exact ⟨sl,by rw [Vg b (Z7 hb nf he rfl)]; exact Heap.get?_push_of_some _ q⟩
theorem Wbf {x:Value} (z:2 < ws.size):(ws.setIfInBounds 1 x)[1]? = some x:=by
 rw [Array.getElem?_setIfInBounds]
 simp; omega
theorem Ybf {x:Value}:(ws.setIfInBounds 1 x)[2]? = ws[2]?:=by
 rw [Array.getElem?_setIfInBounds]
 simp
theorem set_same {x y:Value}:(ws.setIfInBounds 1 x).setIfInBounds 1 y=ws.setIfInBounds 1 y:=by simp
theorem note_x (fr:A.frames=some (env :: outer)) (F:s.heap.FunFrames B (env :: outer)) (hf:env.frame=some L) (he:s.heap.get? e=some { ob with data:=.fields ws }) (st:B.StaysIn s.heap) (new:B.get? e=none) (z:2 < ws.size)
  (h1:ws[1]? = some .none∨∃ T oT ts,ws[1]? = some (.ref T)/\B.get? T=none/\T≠e/\s.heap.get? T=some oT/\oT.data = .fields ts/\ts[3]? = some .none)
  (k:∀ h',FlyX B (env :: outer) e ob ws (rawInt L) h'->s.heap.UpToSlots h'->Q () { s with heap:=h' }):wpAny M A (noteFrame (.ref e) env) Q E s:=by
 unfold noteFrame
 simp only [hf]
 rcases h1 with h1 | ⟨T,oT,ts,h1,nT,ne,hT,dT,h3⟩
 ·refine wpAny_bind (wpAny_field he rfl h1 ?_)
  rw [if_neg (by decide)]
  exact Zbt fr F hf he st new z k
 ·refine wpAny_bind (wpAny_field he rfl h1 ?_)
  rw [if_pos (by simp:(Value.ref T != Value.none)=true)]
  refine wpAny_bind (wpAny_field hT dT h3 ?_)
  rw [if_neg (by simp [rawInt]:¬ (Value.none == rawInt L)=true)]
  refine wpAny_bind (wpAny_setField hT dT (Array.getElem?_eq_some_iff.mp h3).1 ?_)
  refine Zbt (s:={ s with heap:=s.heap.update T _ }) fr (F.of_keeps fun b o hb nf=>⟨o,by rw [Vg b (Z7 hb nf hT dT)]; exact hb,rfl⟩) hf (by rw [Vg e (Ne.symm ne)]; exact he) (fun b o q=>by rw [Vg b (Xbj q nT)]; exact st b o q) new z fun h' x u=>k h' x ?_
  intro b o hb nf
  exact u b o (by rw [Vg b (Z7 hb nf hT dT)]; exact hb) nf
theorem Zbn {l:List Env} {fl:Value} (x:FlyX B l e ob vs fl s.heap) (k:∀ h',FlyX B l e ob vs .none h'->s.heap.UpToSlots h'->Q () { s with heap:=h' }):wpAny M A (setFlight (.ref e) none) Q E s:=by
 obtain ⟨st,new,F,⟨T,oT,ts,he,nT,ne,hT,dT,h3⟩,z⟩:=x
 unfold setFlight
 have z3:=(Array.getElem?_eq_some_iff.mp h3).1
 refine wpAny_bind (wpAny_field he rfl (x:=.ref T) (Wbf z) ?_)
 rw [if_pos (by simp:(Value.ref T != Value.none)=true)]
 obtain ⟨c,d,dt,sl⟩:=oT
 cases dT
 refine wpAny_setField hT rfl z3 (k _ ⟨fun b o q=>by rw [Vg b (Xbj q nT)]; exact st b o q,new,F.of_keeps fun b o hb nf=>⟨o,by rw [Vg b (Z7 hb nf hT rfl)]; exact hb,rfl⟩,⟨T,_,_,by rw [Vg e (Ne.symm ne)]; exact he,nT,ne,Heap.get?_update_self _ hT rfl,rfl,by simp [z3]⟩,z⟩ fun b o hb nf=>⟨o.slots,by rw [Vg b (Z7 hb nf hT rfl)]; exact hb⟩)
theorem Xbm (fr:A.frames=some (env :: outer)) (F:s.heap.FunFrames B (env :: outer)) (hf:env.frame=some L) (he:s.heap.get? e=some { ob with data:=.fields ws }) (st:B.StaysIn s.heap) (new:B.get? e=none) (z:2 < ws.size)
  (h1:ws[1]? = some .none∨∃ T oT ts,ws[1]? = some (.ref T)/\B.get? T=none/\T≠e/\s.heap.get? T=some oT/\oT.data = .fields ts/\ts[3]? = some .none)
  (k:∀ h',FlyX B outer e ob ws .none h'->s.heap.UpToSlots h'->Q () { s with heap:=h' }):wpAny M A (leaving env (.ref e)) Q E s:=by
 unfold leaving
 refine wpAny_bind (note_x fr F hf he st new z h1 fun h' x u=>Zbn (s:={ s with heap:=h' }) x fun h2 y v=>k h2 ⟨y.stay,y.new,?_,y.tr,y.two⟩ (u.trans v))
 obtain ⟨_,_,q⟩:=y.fun_
 exact q
theorem TrX.re {x:Value} {h:Heap} {fl:Value} (y:TrX B e ob (vs.setIfInBounds 1 x) fl h):TrX B e ob vs fl h:=by
 obtain ⟨T,oT,ts,he,r⟩:=y
 rw [set_same] at he
 exact ⟨T,oT,ts,he,r⟩
theorem FlyX.re {l:List Env} {x:Value} {h:Heap} {fl:Value} (y:FlyX B l e ob (vs.setIfInBounds 1 x) fl h):FlyX B l e ob vs fl h:=⟨y.stay,y.new,y.fun_,y.tr.re,by have:=y.two; simpa using this⟩
theorem leave_on (fr:A.frames=some (env :: outer)) (hf:env.frame=some L) (x:FlyX B (env :: outer) e ob vs .none s.heap) (k:∀ h',FlyX B outer e ob vs .none h'->s.heap.UpToSlots h'->Q () { s with heap:=h' }) :
  wpAny M A (leaving env (.ref e)) Q E s:=by
 obtain ⟨T,oT,ts,he,r⟩:=x.tr
 have z:=x.two
 exact Xbm fr x.fun_ hf he x.stay x.new (by simpa using z) (.inr ⟨T,oT,ts,Wbf z,r⟩) fun h' y u=>k h' y.re u
theorem note_on (fr:A.frames=some (env :: outer)) (hf:env.frame=some L) (x:FlyX B (env :: outer) e ob vs .none s.heap) (k:∀ h',FlyX B (env :: outer) e ob vs (rawInt L) h'->s.heap.UpToSlots h'->Q () { s with heap:=h' }) :
  wpAny M A (noteFrame (.ref e) env) Q E s:=by
 obtain ⟨T,oT,ts,he,r⟩:=x.tr
 have z:=x.two
 exact note_x fr x.fun_ hf he x.stay x.new (by simpa using z) (.inr ⟨T,oT,ts,Wbf z,r⟩) fun h' y u=>k h' y.re u
end
end DW
end
section
namespace DW
open PySem PySem.StrLaws PySem.Builtin PySem.Builtin.Str
end DW
end
section
namespace DW
open PySem
noncomputable abbrev DKey:=Sum Int (List Nat)
inductive D where
 | non | bl (b:Bool) | int (i:Int) | str (x:List Nat)
 | tup (ds:List D) | lst (ds:List D) | ro (ds:List D) | loc (n:Nat) | dic (ks:List DKey) (ds:List D) | fdc (ks:List DKey) (ds:List D)
inductive Cell where
 | lst (ds:List D) | ins (c:String) (fs:List (String×D)) | dic (ks:List DKey) (ds:List D) | dtc (ks:List (List DKey)) (ds:List D) | fdt (o:Obj) (ks:List (List DKey)) (ds:List D) | exc (c:String) (ks:List String) (ds:List D) | gone | tbl | fdi (o:Obj) (ks:List DKey) (ds:List D)
noncomputable abbrev Mem:=List Cell
noncomputable abbrev Rho:=List (Option D)
noncomputable abbrev QD:=D->Mem->Prop
noncomputable abbrev DSp:=List D->Mem->QD->Prop
noncomputable abbrev QX:=String->List String->List D->Mem->Prop
noncomputable abbrev DSpX:=List D->Mem->QD->QX->Prop
mutual
inductive E where
 | var (i:Nat) | cst (d:D)
 | bin (op:Operator) (a b:E) | neg (a:E) | not (a:E)
 | cmp (op:CmpOp) (a b:E) | chain (p q:CmpOp) (a b c:E)
 | and (a b:E) | or (a b:E)
 | call (x:Str) (sp:DSp) (as:Es) | blt (x:String) (as:Es)
 | isin (a:E) (t:String) (ks:Option (List (List Nat)):=none) | lset (a:E) (s:Bool:=false)
 | meth (m:String) (o:E) (as:Es)
 | idx (a b:E) | slc (m:Bool) (a:E) (lo hi:Es)
 | tup (as:Es) | lst (m:Bool) (as:Es)
 | comp (m:Bool) (tg:Nat) (tt:Bool) (cap:List Nat) (elt:E) (it:It) (cond:Es)
 | cat (m:Bool) (a b:E)
 | isx (a:E) (tt:Bool) (ts:List String) (tab:List (String×Bool))
inductive Es where
 | nil | cons (e:E) (es:Es)
inductive It where
 | seq (e:E) | rng (as:Es)
end
inductive XC where
 | fn (x:Str) (sp:DSpX) (as:Es)
mutual
inductive S where
 | set (i:Nat) (e:E) | setT (is:List Nat) (e:E)
 | augIx (op:Operator) (o i e:E) | setIx (o i e:E)
 | exp (e:E) | ret (e:E)
 | ite (c:E) (a b:Ss) | for_ (tg:List Nat) (tt:Bool) (it:It) (b:Ss)
 | nev
 | retX (c:XC) | rais (c:String) (as:Es) | tryx (P:String) (tab:List String) (i:Nat) (b h:Ss)
inductive Ss where
 | nil | cons (s:S) (r:Ss)
end
noncomputable def b2i (b:Bool):Int:=if b then 1 else 0
mutual
noncomputable def flat:Nat->D->Bool
 | _,.non=>true
 | _,.bl _=>true
 | _,.int _=>true
 | _,.str x=>x.all (· < 1114112)
 | n + 1,.tup ds=>flats n ds
 | n + 1,.lst ds=>flats n ds
 | _,_=>false
noncomputable def flats:Nat->List D->Bool
 | _,[]=>true
 | n,d :: ds=>flat n d && flats n ds
end
mutual
noncomputable def eqD:D->D->Bool
 | .non,e=>match e with | .non=>true | _=>false
 | .bl a,e=>match e with | .bl b=>a == b | .int j=>b2i a == j | _=>false
 | .int i,e=>match e with | .int j=>i == j | .bl b=>i == b2i b | _=>false
 | .str x,e=>match e with | .str y=>x == y | _=>false
 | .tup ds,e=>match e with | .tup es=>eqDs ds es | _=>false
 | .lst ds,e=>match e with | .lst es=>eqDs ds es | _=>false
 | .ro ds,_=>false
 | .loc _,_=>false
 | .dic ks ds,e=>match e with | .dic ls es=>decide (ks=ls) && eqDs ds es | _=>false
 | .fdc _ _,_=>false
noncomputable def eqDs:List D->List D->Bool
 | [],es=>es.isEmpty
 | d :: ds,es=>match es with | []=>false | e :: es=>eqD d e && eqDs ds es
end
noncomputable def ltCs:List Nat->List Nat->Bool
 | _,[]=>false
 | [],_ :: _=>true
 | x :: xs,y :: ys=>if x=y then ltCs xs ys else decide (x < y)
noncomputable def sc2:D->Bool
 | .int _=>true
 | .str _=>true
 | _=>false
mutual
noncomputable def ltD:D->D->Option Bool
 | .int i,e=>match e with | .int j=>some (decide (i < j)) | _=>none
 | .str x,e=>match e with | .str y=>some (ltCs x y) | _=>none
 | .tup ds,e=>match e with | .tup es=>if (ds.all sc2 && es.all sc2)=true then ltDs ds es else none | _=>none
 | _,_=>none
noncomputable def ltDs:List D->List D->Option Bool
 | [],es=>some (!es.isEmpty)
 | d :: ds,es=>match es with
  | []=>some false
  | e :: es=>if eqD d e then ltDs ds es else ltD d e
end
noncomputable abbrev Itm:=Int×List Nat
noncomputable def lt2 (x y:Itm):Bool:=if x.1=y.1 then ltCs x.2 y.2 else decide (x.1 < y.1)
noncomputable def Wb (μ:Mem):D->Option (List D)
 | .lst ds=>some ds
 | .tup ds=>some ds
 | .ro ds=>some ds
 | .loc n=>match μ[n]? with | some (.lst ds)=>some ds | _=>none
 | _=>none
noncomputable def chars (x:List Nat):List D:=x.map fun c=>D.str [c]
noncomputable def lenOf (μ:Mem):D->Option Nat
 | .str x=>some x.length
 | d=>(Wb μ d).map (·.length)
noncomputable def Zv (μ:Mem):D->Option (List D)
 | .tup _=>none
 | d=>Wb μ d
noncomputable def truth (μ:Mem):D->Option Bool
 | .non=>some false
 | .bl b=>some b
 | .int i=>some (i != 0)
 | .dic ks _=>some (ks.length != 0)
 | d=>(lenOf μ d).map (· != 0)
noncomputable def isTy (have_ want:String):Bool:=have_ == want || (have_ == "bool" && want == "int")
noncomputable def tyOf (μ:Mem):D->Option String
 | .non=>some "NoneType" | .bl _=>some "bool" | .int _=>some "int" | .str _=>some "str"
 | .tup _=>some "tuple" | .lst _=>some "list" | .dic _ _=>some "dict" | .ro _=>none | .fdc _ _=>none
 | .loc n=>match μ[n]? with | some (.lst _)=>some "list" | some (.dic _ _)=>some "dict" | _=>none
noncomputable def Yn (t:String) (d:D) (μ:Mem) (Q:QD):Prop:=match tyOf μ d with
 | some h=>Q (.bl (isTy h t)) μ
 | none=>False
noncomputable def wInK (ks:List (List Nat)) (d:D) (μ:Mem) (Q:QD):Prop:=match d with
 | .str t=>Q (.bl (ks.contains t)) μ
 | _=>False
noncomputable def Zj (lo:Int) (n:Nat):List D:=(List.range n).map fun (k:Nat)=>D.int (lo + (k:Int))
noncomputable def ixD (n:Nat) (i:Int):Option Nat:=if 0<=i then (if i < n then some i.toNat else none) else if -(n:Int)<=i then some (i + n).toNat else none
noncomputable def sIxD (n d:Nat):Option Int->Nat
 | none=>d
 | some v=>if v < 0 then (v + (n:Int)).toNat else min v.toNat n
noncomputable def cutD {α:Type} (xs:List α) (lo hi:Option Int):List α:=(xs.drop (sIxD xs.length 0 lo)).take (sIxD xs.length xs.length hi - sIxD xs.length 0 lo)
noncomputable def lim:Nat:=16777216
noncomputable def newL (m:Bool) (ds:List D) (μ:Mem) (Q:QD):Prop:=match m with
 | true=>Q (.loc μ.length) (μ ++ [.lst ds])
 | false=>Q (.lst ds) μ
noncomputable def CMulD (i j:Int):Prop:=(-(2 ^ 64) < i/\i < 2 ^ 64)∨(-(2 ^ 64) < j/\j < 2 ^ 64)
noncomputable def Xba (j:Int):Prop:=0 < j/\j < 2 ^ 500
noncomputable def CPowD (i j:Int):Prop:=0<=j/\j<=1000000/\i.natAbs < 2 ^ 64
noncomputable def wBin (op:Operator) (x y:D) (μ:Mem) (Q:QD):Prop :=
 match x,y with
 | .int i,.int j=>match op with
  | .Add=>Q (.int (i + j)) μ
  | .Sub=>Q (.int (i - j)) μ
  | .Mult=>CMulD i j/\Q (.int (i * j)) μ
  | .FloorDiv=>Xba j/\Q (.int (i / j)) μ
  | .Mod=>0 < j/\Q (.int (i % j)) μ
  | .Pow=>CPowD i j/\Q (.int (i ^ j.toNat)) μ
  | _=>False
 | .str a,.str b=>match op with
  | .Add=>a.length + b.length<=lim/\Q (.str (a ++ b)) μ
  | _=>False
 | .str a,.int k=>match op with
  | .Mult=>(0<=k/\k<=1000/\1<=a.length/\a.length<=1000)/\Q (.str (List.replicate k.toNat a).flatten) μ
  | _=>False
 | .lst a,.lst b=>match op with
  | .Add=>a.length + b.length<=lim/\Q (.lst (a ++ b)) μ
  | _=>False
 | .tup a,.tup b=>match op with
  | .Add=>a.length + b.length<=lim/\Q (.tup (a ++ b)) μ
  | _=>False
 | _,_=>False
noncomputable def Ybp:D->Bool
 | .non=>true
 | _=>false
noncomputable def keyD:D->Option DKey
 | .int i=>some (.inl i)
 | .str x=>some (.inr x)
 | _=>none
noncomputable def Ya8:List D->Option (List DKey)
 | []=>some []
 | d :: ds=>match keyD d with | some k=>(Ya8 ds).map (k :: ·) | none=>none
noncomputable def hasK {κ:Type} [DecidableEq κ] (ks:List κ) (k:κ):Bool:=decide (k∈ks)
theorem Xa1 {κ:Type} [DecidableEq κ] {ks:List κ} {k:κ}:hasK ks k=true<->k∈ks:=by unfold hasK; simp
noncomputable def wInD (neg:Bool) (x y:D) (μ:Mem) (Q:QD):Prop:=match y with
 | .loc n=>(match μ[n]? with
  | some (.dic ks _)=>(match keyD x with | some k=>Q (.bl (neg != hasK ks k)) μ | none=>False)
  | some (.dtc ks _)=>(match x with | .tup es=>(match Ya8 es with | some k=>Q (.bl (neg != hasK ks k)) μ | none=>False) | _=>False)
  | _=>False)
 | _=>False
noncomputable def wLenD (d:D) (μ:Mem) (Q:QD):Prop:=match d with
 | .loc n=>(match μ[n]? with | some (.dic ks _)=>Q (.int ks.length) μ | _=>False)
 | _=>False
noncomputable def wNeE (n:Nat) (y:D) (μ:Mem) (Q:QD):Prop:=match μ[n]? with
 | some (.lst ds)=>(match y with | .lst []=>Q (.bl (!ds.isEmpty)) μ | _=>False)
 | _=>False
noncomputable def wCmp (op:CmpOp) (x y:D) (μ:Mem) (Q:QD):Prop :=
 match op with
 | .Eq=>flat 60 x=true/\flat 60 y=true/\Q (.bl (eqD x y)) μ
 | .NotEq=>match x with
  | .loc n=>wNeE n y μ Q
  | x=>flat 60 x=true/\flat 60 y=true/\Q (.bl (!eqD x y)) μ
 | .Lt=>match ltD x y with | some b=>Q (.bl b) μ | none=>False
 | .LtE=>match x,y with
  | .int i,.int j=>Q (.bl (decide (i<=j))) μ
  | .str a,.str b=>Q (.bl (!ltCs b a)) μ
  | _,_=>False
 | .Gt=>match x,y with
  | .int i,.int j=>Q (.bl (decide (j < i))) μ
  | _,_=>False
 | .GtE=>match x,y with
  | .int i,.int j=>Q (.bl (decide (j<=i))) μ
  | _,_=>False
 | .Is=>match y with | .non=>Q (.bl (Ybp x)) μ | .bl b=>(match x with | .bl a=>Q (.bl (a == b)) μ | _=>False) | _=>False
 | .IsNot=>match y with | .non=>Q (.bl (!Ybp x)) μ | .bl b=>(match x with | .bl a=>Q (.bl (a != b)) μ | _=>False) | _=>False
 | .In=>match y with
  | .str t=>(match x with | .str a=>(match a with | [c]=>Q (.bl (t.contains c)) μ | _=>False) | _=>False)
  | y=>(match Wb μ y with | some ds=>flats 60 ds=true/\flat 60 x=true/\Q (.bl (ds.any fun d=>eqD d x)) μ | none=>wInD false x y μ Q)
 | .NotIn=>match y with
  | .str t=>(match x with | .str a=>(match a with | [c]=>Q (.bl (!t.contains c)) μ | _=>False) | _=>False)
  | y=>(match Wb μ y with | some ds=>flats 60 ds=true/\flat 60 x=true/\Q (.bl (!ds.any fun d=>eqD d x)) μ | none=>wInD true x y μ Q)
noncomputable def Vq:List D->Option (List Int)
 | []=>some []
 | .int i :: ds=>(Vq ds).map (i :: ·)
 | _ :: _=>none
noncomputable def Xas (ns:List Int):Nat:=(ns.foldl (fun (a:List Int) x=>if a.any (· == x) then a else a ++ [x]) []).length
noncomputable def wLset (d:D) (μ:Mem) (Q:QD):Prop:=match (Wb μ d).bind Vq with
 | some ns=>ns.length < 1000/\Q (.int (Xas ns:Nat)) μ
 | none=>False
noncomputable def Wby (d:D) (μ:Mem) (Q:QD):Prop:=match d with
 | .tup es=>(match Vq es with
  | some ns=>(∀ n∈ns,0<=n/\n < 7)/\∀ r:List Int,r.Pairwise (· < ·)->(∀ x,x∈r<->x∈ns)->Q (.lst (r.map D.int)) μ
  | none=>False)
 | _=>False
noncomputable def knownB:List String:=["len","max","min","list","mlist","tuple","divmod","int"]
noncomputable def wB3 (b:String) (d e f:D) (μ:Mem) (Q:QD):Prop:=match b with
 | "min3"=>(match d,e,f with | .int i,.int j,.int k=>Q (.int (min (min i j) k)) μ | _,_,_=>False)
 | _=>False
theorem wB3_no {b:String} {d e f:D} {μ:Mem} {Q:QD} (hb:b≠"min3"):¬ wB3 b d e f μ Q:=by
 unfold wB3
 split
 ·exact absurd rfl hb
 ·exact id
noncomputable def wKys (d:D) (μ:Mem) (Q:QD):Prop:=match d with
 | .loc n=>(match μ[n]? with | some (.dic ks _)=>∃ is:List Int,ks=is.map Sum.inl/\Q (.lst (is.map .int)) μ | _=>False)
 | _=>False
noncomputable def tI (l:List Int):D:=.tup (l.map .int)
noncomputable def wBlt (b:String) (ds:List D) (μ:Mem) (Q:QD):Prop :=
 match ds with
 | [d]=>match b with
  | "len"=>match lenOf μ d with | some n=>Q (.int n) μ | none=>wLenD d μ Q
  | "max"=>match (Zv μ d).bind Vq with | some (i :: is)=>Q (.int (is.foldl max i)) μ | _=>False
  | "min"=>match (Zv μ d).bind Vq with | some (i :: is)=>Q (.int (is.foldl min i)) μ | _=>False
  | "list"=>match Wb μ d with | some es=>Q (.lst es) μ | none=>wKys d μ Q
  | "mlist"=>match Wb μ d with | some es=>newL true es μ Q | none=>False
  | "int"=>match d with | .int i=>Q (.int i) μ | .bl b=>Q (.int (if b then 1 else 0)) μ | .str x=>∃ n:Int,(x.length<=640/\intText? ⟨x.toArray⟩=some n)/\Q (.int n) μ | _=>False
  | "tuple"=>match Wb μ d with | some es=>Q (.tup es) μ | none=>False
  | _=>False
 | [d,e]=>match b with
  | "divmod"=>match d,e with | .int i,.int j=>Xba j/\Q (.tup [.int (i / j),.int (i % j)]) μ | _,_=>False
  | "max"=>match d,e with | .int i,.int j=>Q (.int (if j > i then j else i)) μ | _,_=>False
  | "min"=>match d,e with | .int i,.int j=>Q (.int (if j < i then j else i)) μ | _,_=>False
  | _=>False
 | [d,e,f]=>wB3 b d e f μ Q
 | _=>False
noncomputable def wlOf (μ:Mem):D->Option (List D)
 | .lst ds=>some ds
 | .loc n=>match μ[n]? with | some (.lst ds)=>some ds | _=>none
 | _=>none
noncomputable def wCat (m:Bool) (x y:D) (μ:Mem) (Q:QD):Prop:=match wlOf μ x with
 | some as=>(match wlOf μ y with | some bs=>as.length + bs.length<=lim/\newL m (as ++ bs) μ Q | none=>False)
 | none=>False
noncomputable def Yaf (op:Operator) (p q:D) (k:D->Prop):Prop:=match p,q with
 | .int i,.int j=>match op with | .Add=>k (.int (i + j)) | .Sub=>k (.int (i - j)) | _=>False
 | _,_=>False
noncomputable def isCell (μ:Mem):D->Bool
 | .loc n=>match μ[n]? with | some (.lst _)=>true | _=>false
 | _=>false
noncomputable def Zq (m:String) (n:Nat) (xs:List D) (ds:List D) (μ:Mem) (Q:QD):Prop :=
 match ds with
 | []=>match m with
  | "reverse"=>Q .non (μ.set n (.lst xs.reverse))
  | _=>False
 | [d]=>match m with
  | "append"=>xs.length < lim/\Q .non (μ.set n (.lst (xs ++ [d])))
  | _=>False
 | [.int k,d]=>match m with
  | _=>False
 | _=>False
noncomputable def wIsx (tab:List (String×Bool)) (d:D) (μ:Mem) (Q:QD):Prop:=match d with
 | .loc n=>(match μ[n]? with | some (.exc c _ _)=>(match tab.lookup c with | some b=>Q (.bl b) μ | none=>False) | _=>False)
 | _=>False
noncomputable def Zx (m:String) (o:D) (ds:List D) (μ:Mem) (Q:QD):Prop :=
 match o with
 | .loc n=>match μ[n]? with
  | some (.lst xs)=>Zq m n xs ds μ Q
  | _=>False
 | _=>False
noncomputable def wIdx (x y:D) (μ:Mem) (Q:QD):Prop :=
 match x,y with
 | .str z,.int i=>match (ixD z.length i).bind (z[·]?) with | some c=>Q (.str [c]) μ | none=>False
 | x,.int i=>match Wb μ x with
  | some ds=>match (ixD ds.length i).bind (ds[·]?) with | some d=>Q d μ | none=>False
  | none=>False
 | _,_=>False
noncomputable def wSlc (m:Bool) (x:D) (lo hi:Option Int) (μ:Mem) (Q:QD):Prop :=
 match x with
 | .lst ds=>newL m (cutD ds lo hi) μ Q
 | .str z=>((∀ i,lo=some i->0<=i)/\(∀ i,hi=some i->0<=i)/\sIxD z.length 0 lo<=sIxD z.length z.length hi)/\Q (.str (cutD z lo hi)) μ
 | .tup ds=>Q (.tup (cutD ds lo hi)) μ
 | .loc n=>match μ[n]? with | some (.lst ds)=>newL m (cutD ds lo hi) μ Q | _=>False
 | _=>False
noncomputable def wTru (d:D) (μ:Mem) (Q:Bool->Mem->Prop):Prop:=match truth μ d with | some b=>Q b μ | none=>False
noncomputable def wBl (d:D) (μ:Mem) (Q:Bool->Mem->Prop):Prop:=match d with | .bl b=>Q b μ | _=>False
noncomputable def wInt (d:D) (μ:Mem) (Q:Int->Mem->Prop):Prop:=match d with | .int i=>Q i μ | _=>False
noncomputable abbrev QI:=List D->(Mem->Prop)->Mem->Prop
noncomputable def wSeq (d:D) (μ:Mem) (Q:QI):Prop :=
 match d with
 | .lst ds=>Q ds (fun _=>True) μ
 | .tup ds=>Q ds (fun _=>True) μ
 | .ro ds=>Q ds (fun _=>True) μ
 | .str x=>Q (chars x) (fun _=>True) μ
 | .fdc ks _=>∃ is:List Int,ks=is.map Sum.inl/\Q (is.map .int) (fun _=>True) μ
 | .loc n=>match μ[n]? with
  | some (.lst ds)=>Q ds (fun μ'=>μ'[n]? = some (.lst ds)) μ
  | some (.fdt o ks ds)=>∃ is:List (List Int),ks=is.map (fun l=>l.map Sum.inl)/\Q (is.map tI) (fun μ'=>μ'[n]? = some (.fdt o ks ds)) μ
  | some (.fdi o ks ds)=>∃ is:List Int,ks=is.map Sum.inl/\Q (is.map .int) (fun μ'=>μ'[n]? = some (.fdi o ks ds)) μ
  | _=>False
 | _=>False
noncomputable def wRng (n:Nat) (ds:List D) (μ:Mem) (Q:QI):Prop :=
 match n,ds with
 | 1,[.int j]=>j<=lim/\-(2 ^ 62)<=j/\Q (Zj 0 j.toNat) (fun _=>True) μ
 | _,_=>False
noncomputable def Yo (is:List Nat) (tt:Bool) (d:D) (ρ:Rho) (k:Rho->Prop):Prop :=
 match tt with
 | false=>match is with | [i]=>k (ρ.set i (some d)) | _=>False
 | true=>match d with | .tup ds=>ds.length=is.length/\k ((is.zip ds).foldl (fun r p=>r.set p.1 (some p.2)) ρ) | _=>False
noncomputable def bindC (n:Nat) (tt:Bool) (d:D) (r:Rho) (k:Rho->Prop):Prop :=
 match tt with
 | false=>k (some d :: r)
 | true=>match d with | .tup ds=>ds.length=n/\k (ds.map some ++ r) | _=>False
noncomputable def Yx (bnd:D->(Rho->Prop)->Prop) (cw:Rho->Mem->(Bool->Mem->Prop)->Prop) (ew:Rho->Mem->QD->Prop) (g:Mem->Prop):List D->List D->Mem->(List D->Mem->Prop)->Prop
 | [],acc,μ,Q=>g μ/\Q acc μ
 | d :: ds,acc,μ,Q=>g μ/\bnd d fun ρ=>cw ρ μ fun b μ1=>if b=true then ew ρ μ1 fun v μ2=>Yx bnd cw ew g ds (acc ++ [v]) μ2 Q else Yx bnd cw ew g ds acc μ1 Q
noncomputable def Xv:Es->Nat
 | .nil=>0
 | .cons _ es=>Xv es + 1
mutual
noncomputable def wE:E->Rho->Mem->QD->Prop
 | .var i,ρ,μ,Q=>match ρ[i]? with | some (some d)=>Q d μ | _=>False
 | .cst d,_,μ,Q=>Q d μ
 | .bin op a b,ρ,μ,Q=>wE a ρ μ fun x μ1=>wE b ρ μ1 fun y μ2=>wBin op x y μ2 Q
 | .neg a,ρ,μ,Q=>wE a ρ μ fun x μ1=>match x with | .int i=>Q (.int (-i)) μ1 | _=>False
 | .not a,ρ,μ,Q=>wE a ρ μ fun x μ1=>wBl x μ1 fun b μ2=>Q (.bl (!b)) μ2
 | .cmp op a b,ρ,μ,Q=>wE a ρ μ fun x μ1=>wE b ρ μ1 fun y μ2=>wCmp op x y μ2 Q
 | .chain p q a b c,ρ,μ,Q=>wE a ρ μ fun x μ1=>wE b ρ μ1 fun y μ2=>wCmp p x y μ2 fun r μ3=>wBl r μ3 fun t μ3 =>
   if t=true then wE c ρ μ3 fun z μ4=>wCmp q y z μ4 Q else Q (.bl false) μ3
 | .and a b,ρ,μ,Q=>wE a ρ μ fun x μ1=>wBl x μ1 fun t μ2=>if t=true then wE b ρ μ2 Q else Q (.bl false) μ2
 | .or a b,ρ,μ,Q=>wE a ρ μ fun x μ1=>wBl x μ1 fun t μ2=>if t=true then Q (.bl true) μ2 else wE b ρ μ2 Q
 | .call _ sp as,ρ,μ,Q=>wEs as ρ μ fun ds μ1=>sp ds μ1 Q
 | .blt x as,ρ,μ,Q=>wEs as ρ μ fun ds μ1=>wBlt x ds μ1 Q
 | .isin a t,ρ,μ,Q=>wE a ρ μ fun d μ1=>Yn t d μ1 Q
 | .isin a _ (some ks),ρ,μ,Q=>wE a ρ μ fun d μ1=>wInK ks d μ1 Q
 | .lset a false,ρ,μ,Q=>wE a ρ μ fun d μ1=>wLset d μ1 Q
 | .lset a true,ρ,μ,Q=>wE a ρ μ fun d μ1=>Wby d μ1 Q
 | .meth m o as,ρ,μ,Q=>wE o ρ μ fun x μ1=>isCell μ1 x=true/\wEs as ρ μ1 fun ds μ2=>Zx m x ds μ2 Q
 | .idx a b,ρ,μ,Q=>wE a ρ μ fun x μ1=>wE b ρ μ1 fun y μ2=>wIdx x y μ2 Q
 | .slc m a lo hi,ρ,μ,Q=>wE a ρ μ fun x μ1=>wO lo ρ μ1 fun l μ2=>wO hi ρ μ2 fun h μ3=>wSlc m x l h μ3 Q
 | .tup as,ρ,μ,Q=>wEs as ρ μ fun ds μ1=>ds.length<=lim/\Q (.tup ds) μ1
 | .lst m as,ρ,μ,Q=>wEs as ρ μ fun ds μ1=>ds.length<=lim/\newL m ds μ1 Q
 | .comp m n tt cap elt it cond,ρ,μ,Q=>wI it ρ μ fun ds g μ1 =>
   Yx (fun d k=>bindC n tt d (cap.map fun i=>(ρ[i]?).join) k) (fun ρ' μ' Q'=>wTs cond ρ' μ' Q') (fun ρ' μ' Q'=>wE elt ρ' μ' Q') g ds [] μ1 fun vs μ2=>newL m vs μ2 Q
 | .cat m a b,ρ,μ,Q=>wE a ρ μ fun x μ1=>wE b ρ μ1 fun y μ2=>wCat m x y μ2 Q
 | .isx a _ _ tab,ρ,μ,Q=>wE a ρ μ fun d μ1=>wIsx tab d μ1 Q
noncomputable def wEs:Es->Rho->Mem->(List D->Mem->Prop)->Prop
 | .nil,_,μ,Q=>Q [] μ
 | .cons e es,ρ,μ,Q=>wE e ρ μ fun d μ1=>wEs es ρ μ1 fun ds μ2=>Q (d :: ds) μ2
noncomputable def wO:Es->Rho->Mem->(Option Int->Mem->Prop)->Prop
 | .nil,_,μ,Q=>Q none μ
 | .cons e es,ρ,μ,Q=>wE e ρ μ fun d μ1=>match es with | .nil=>wInt d μ1 fun i μ2=>Q (some i) μ2 | _=>False
noncomputable def wT:E->Rho->Mem->(Bool->Mem->Prop)->Prop
 | .not a,ρ,μ,Q=>wT a ρ μ fun b μ1=>Q (!b) μ1
 | .and a b,ρ,μ,Q=>wT a ρ μ fun t μ1=>if t=true then wT b ρ μ1 Q else Q false μ1
 | .or a b,ρ,μ,Q=>wT a ρ μ fun t μ1=>if t=true then Q true μ1 else wT b ρ μ1 Q
 | .var i,ρ,μ,Q=>match ρ[i]? with | some (some d)=>wTru d μ Q | _=>False
 | .cst d,_,μ,Q=>wTru d μ Q
 | .cmp op a b,ρ,μ,Q=>wE a ρ μ fun x μ1=>wE b ρ μ1 fun y μ2=>wCmp op x y μ2 fun r μ3=>wBl r μ3 Q
 | .chain p q a b c,ρ,μ,Q=>wE a ρ μ fun x μ1=>wE b ρ μ1 fun y μ2=>wCmp p x y μ2 fun r μ3=>wBl r μ3 fun t μ3 =>
   if t=true then wE c ρ μ3 fun z μ4=>wCmp q y z μ4 fun r μ5=>wBl r μ5 Q else Q false μ3
 | .call _ sp as,ρ,μ,Q=>wEs as ρ μ fun ds μ1=>sp ds μ1 fun d μ2=>wTru d μ2 Q
 | .idx a b,ρ,μ,Q=>wE a ρ μ fun x μ1=>wE b ρ μ1 fun y μ2=>wIdx x y μ2 fun d μ3=>wTru d μ3 Q
 | .blt x as,ρ,μ,Q=>wEs as ρ μ fun ds μ1=>wBlt x ds μ1 fun d μ2=>wTru d μ2 Q
 | .isin a t,ρ,μ,Q=>wE a ρ μ fun d μ1=>Yn t d μ1 fun r μ2=>wBl r μ2 Q
 | .isin a _ (some ks),ρ,μ,Q=>wE a ρ μ fun d μ1=>wInK ks d μ1 fun r μ2=>wBl r μ2 Q
 | .isx a _ _ tab,ρ,μ,Q=>wE a ρ μ fun d μ1=>wIsx tab d μ1 fun r μ2=>wBl r μ2 Q
 | _,_,_,_=>False
noncomputable def wTs:Es->Rho->Mem->(Bool->Mem->Prop)->Prop
 | .nil,_,μ,Q=>Q true μ
 | .cons e es,ρ,μ,Q=>wT e ρ μ fun b μ1=>match es with | .nil=>Q b μ1 | _=>False
noncomputable def wI:It->Rho->Mem->QI->Prop
 | .seq e,ρ,μ,Q=>wE e ρ μ fun d μ1=>wSeq d μ1 Q
 | .rng as,ρ,μ,Q=>wEs as ρ μ fun ds μ1=>wRng (Xv as) ds μ1 Q
end
structure DEnds where
 nx:Rho->Mem->Prop
 rt:QD
 bk:Rho->Mem->Prop:=fun _ _=>False
 ct:Rho->Mem->Prop:=fun _ _=>False
 xc:Rho->QX:=fun _ _ _ _ _=>False
noncomputable def Yan (bnd:D->Rho->(Rho->Prop)->Prop) (bw:DEnds->Rho->Mem->Prop) (g:Mem->Prop) (Z:DEnds):List D->Rho->Mem->Prop
 | [],ρ,μ=>g μ/\Z.nx ρ μ
 | d :: ds,ρ,μ=>g μ/\bnd d ρ fun ρ'=>bw { Z with nx:=Yan bnd bw g Z ds,ct:=Yan bnd bw g Z ds,bk:=Z.nx } ρ' μ
noncomputable def Zn (o i v:D) (μ:Mem) (k:Mem->Prop):Prop :=
 match o,i with
 | .loc n,.int j=>match μ[n]? with
  | some (.lst xs)=>match ixD xs.length j with | some p=>k (μ.set n (.lst (xs.set p v))) | none=>False
  | _=>False
 | _,_=>False
noncomputable def Za4 (x y:D) (μ:Mem) (Q:QD):Prop:=match x,y with
 | .loc n,.int j=>(match μ[n]? with
  | some (.lst xs)=>0<=j/\(match xs[j.toNat]? with | some d=>Q d μ | none=>False)
  | _=>False)
 | _,_=>False
noncomputable def wXC:XC->(Rho->QX)->Rho->Mem->QD->Prop
 | .fn _ sp as,X,ρ,μ,Q=>wEs as ρ μ fun ds μ1=>sp ds μ1 Q (X ρ)
mutual
noncomputable def wS:S->DEnds->Rho->Mem->Prop
 | .set i e,Z,ρ,μ=>wE e ρ μ fun d μ1=>Z.nx (ρ.set i (some d)) μ1
 | .setT is e,Z,ρ,μ=>wE e ρ μ fun d μ1=>Yo is true d ρ fun ρ'=>Z.nx ρ' μ1
 | .augIx op o i e,Z,ρ,μ=>wE o ρ μ fun x μ1=>wE i ρ μ1 fun y μ2=>Za4 x y μ2 fun p μ3=>wE e ρ μ3 fun q μ4=>Yaf op p q fun v=>Zn x y v μ4 fun μ5=>Z.nx ρ μ5
 | .setIx o i e,Z,ρ,μ=>wE e ρ μ fun v μ1=>wE o ρ μ1 fun x μ2=>wE i ρ μ2 fun y μ3=>Zn x y v μ3 fun μ4=>Z.nx ρ μ4
 | .exp e,Z,ρ,μ=>wE e ρ μ fun _ μ1=>Z.nx ρ μ1
 | .ret e,Z,ρ,μ=>wE e ρ μ Z.rt
 | .ite c a b,Z,ρ,μ=>wT c ρ μ fun t μ1=>if t=true then wSs a Z ρ μ1 else wSs b Z ρ μ1
 | .for_ tg tt it b,Z,ρ,μ=>wI it ρ μ fun ds g μ1=>Yan (fun d r k=>Yo tg tt d r k) (fun Z' r m=>wSs b Z' r m) g Z ds ρ μ1
 | .nev,_,_,_=>False
 | .retX c,Z,ρ,μ=>wXC c Z.xc ρ μ Z.rt
 | .rais c as,Z,ρ,μ=>wEs as ρ μ fun ds μ1=>ds.length<=lim/\Z.xc ρ c [] [] μ1
 | .tryx _ tab i b h,Z,ρ,μ=>wSs b { Z with xc:=fun ρ' c ks ds μ'=>tab.contains c=true/\wSs h { nx:=fun _ _=>False,rt:=Z.rt } (ρ'.set i (some (.loc μ'.length))) (μ' ++ [.exc c ks ds]) } ρ μ
noncomputable def wSs:Ss->DEnds->Rho->Mem->Prop
 | .nil,Z,ρ,μ=>Z.nx ρ μ
 | .cons s r,Z,ρ,μ=>wS s { Z with nx:=fun ρ' μ'=>wSs r Z ρ' μ' } ρ μ
end
end DW
end
section
namespace DW
open PySem
noncomputable def Zc (N:List Str) (ds:List D):Rho:=ds.map some ++ List.replicate (N.length - ds.length) none
noncomputable def topZ (Q:QD):DEnds:=⟨fun _ μ=>Q .non μ,Q,fun _ _=>False,fun _ _=>False,fun _ _ _ _ _=>False⟩
noncomputable def Zb1 (Q:QD) (X:QX):DEnds:=⟨fun _ μ=>Q .non μ,Q,fun _ _=>False,fun _ _=>False,fun _=>X⟩
noncomputable def Keeps (N:List Str) (i:Ss) (sp:DSp):Prop:=∀ ds μ Q,sp ds μ Q->wSs i (topZ Q) (Zc N ds) μ
noncomputable def Zby (N:List Str) (i:Ss) (sp:DSpX):Prop:=∀ ds μ Q X,sp ds μ Q X->wSs i (Zb1 Q X) (Zc N ds) μ
noncomputable def calmSp (sp:DSpX):DSp:=fun ds μ Q=>sp ds μ Q fun _ _ _ _=>False
noncomputable def spLaw:DSp:=fun ds μ Q=>∃ ns:List Int,ds=[.ro (ns.map D.int)]/\ns.length<=63/\∀ μ',Q (.bl true) μ'
theorem Xg {bnd:D->Rho->(Rho->Prop)->Prop} {bw:DEnds->Rho->Mem->Prop} {g:Mem->Prop} {Z:DEnds} (Inv:List D->Rho->Mem->Prop)
  (hs:∀ d ds ρ μ N,(∀ ρ μ,Inv ds ρ μ->N ρ μ)->Inv (d :: ds) ρ μ->g μ/\bnd d ρ fun ρ'=>bw { Z with nx:=N,ct:=N,bk:=Z.nx } ρ' μ)
  (he:∀ ρ μ,Inv [] ρ μ->g μ/\Z.nx ρ μ):∀ (ds:List D) (ρ:Rho) (μ:Mem),Inv ds ρ μ->Yan bnd bw g Z ds ρ μ
 | [],ρ,μ,h=>he ρ μ h
 | d :: ds,ρ,μ,h=>hs d ds ρ μ _ (fun ρ μ q=>Xg Inv hs he ds ρ μ q) h
theorem Wy {bnd:D->(Rho->Prop)->Prop} {cw:Rho->Mem->(Bool->Mem->Prop)->Prop} {ew:Rho->Mem->QD->Prop} {g:Mem->Prop} {Q:List D->Mem->Prop} (Inv:List D->List D->Mem->Prop)
  (hs:∀ d ds acc μ (Y:D->Mem->Prop) (N:Mem->Prop),(∀ v μ,Inv ds (acc ++ [v]) μ->Y v μ)->(∀ μ,Inv ds acc μ->N μ)->Inv (d :: ds) acc μ->g μ/\bnd d fun ρ=>cw ρ μ fun b μ1=>if b=true then ew ρ μ1 (fun v μ2=>Y v μ2) else N μ1)
  (he:∀ acc μ,Inv [] acc μ->g μ/\Q acc μ):∀ (ds acc:List D) (μ:Mem),Inv ds acc μ->Yx bnd cw ew g ds acc μ Q
 | [],acc,μ,h=>he acc μ h
 | d :: ds,acc,μ,h=>hs d ds acc μ (fun v μ2=>Yx bnd cw ew g ds (acc ++ [v]) μ2 Q) (fun μ1=>Yx bnd cw ew g ds acc μ1 Q) (fun v μ q=>Wy Inv hs he ds (acc ++ [v]) μ q) (fun μ q=>Wy Inv hs he ds acc μ q) h
theorem Vf {α:Type} {bnd:D->(Rho->Prop)->Prop} {cw:Rho->Mem->(Bool->Mem->Prop)->Prop} {ew:Rho->Mem->QD->Prop} {g:Mem->Prop} {Q:List D->Mem->Prop} {μ:Mem} (c:α->D) (p:α->Bool) (f:α->D) (hg:g μ) :
  ∀ (l:List α) (acc:List D),(∀ x∈l,∀ (Y:D->Mem->Prop) (N:Mem->Prop),(if p x=true then Y (f x) μ else N μ)->bnd (c x) fun ρ=>cw ρ μ fun b μ1=>if b=true then ew ρ μ1 (fun v μ2=>Y v μ2) else N μ1) ->
   Q (acc ++ (l.filter p).map f) μ->Yx bnd cw ew g (l.map c) acc μ Q
 | [],acc,_,h=>⟨hg,by simpa using h⟩
 | d :: ds,acc,hs,h=>by
  refine ⟨hg,hs d (by simp) (fun v μ2=>Yx bnd cw ew g (ds.map c) (acc ++ [v]) μ2 Q) (fun μ1=>Yx bnd cw ew g (ds.map c) acc μ1 Q) ?_⟩
  by_cases q:p d=true
  ·rw [if_pos q]
   refine Vf c p f hg ds _ (fun e he=>hs e (by simp [he])) ?_
   rw [List.filter_cons_of_pos q] at h
   simpa using h
  ·rw [if_neg q]
   refine Vf c p f hg ds _ (fun e he=>hs e (by simp [he])) ?_
   rw [List.filter_cons_of_neg q] at h
   exact h
theorem Ya4 {α:Type} {bnd:D->(Rho->Prop)->Prop} {cw:Rho->Mem->(Bool->Mem->Prop)->Prop} {ew:Rho->Mem->QD->Prop} {g:Mem->Prop} {Q:List D->Mem->Prop} {μ:Mem} (c:α->D) (f:α->D) (hg:g μ)
  (l:List α) (acc:List D) (hs:∀ x∈l,∀ (Y:D->Mem->Prop) (N:Mem->Prop),Y (f x) μ->bnd (c x) fun ρ=>cw ρ μ fun b μ1=>if b=true then ew ρ μ1 (fun v μ2=>Y v μ2) else N μ1)
  (h:Q (acc ++ l.map f) μ):Yx bnd cw ew g (l.map c) acc μ Q :=
 Vf c (fun _=>true) f hg l acc (fun x hx Y N q=>hs x hx Y N (by simpa using q)) (by rw [List.filter_eq_self.mpr (by simp)]; exact h)
theorem Yaj {α:Type} (g:α->Int):∀ l:List α,Vq (l.map fun x=>D.int (g x))=some (l.map g)
 | []=>rfl
 | x :: l=>by simp [Vq,Yaj g l]
theorem Xbq (l:List Int):Vq (l.map D.int)=some l:=by
 have:=Yaj (fun i:Int=>i) l
 simpa using this
theorem ixD_nat {n k:Nat} (h:k < n):ixD n (k:Int)=some k:=by
 have:(k:Int) < n:=by omega
 simp [ixD,this]
theorem Xa0 {n:Nat} {i:Int} (h0:0<=i) (h:i < n):ixD n i=some i.toNat:=by simp [ixD,h0,h]
theorem Zz (n:Nat):Zj 0 n=(List.range n).map fun (k:Nat)=>D.int (k:Int):=by simp [Zj]
theorem Y7 {lo:Int} {n:Nat} {d:D} (h:d∈Zj lo n):∃ i:Int,d = .int i/\lo<=i/\i < lo + n:=by
 simp only [Zj,List.mem_map,List.mem_range] at h
 obtain ⟨j,hj,rfl⟩:=h
 exact ⟨_,rfl,by omega,by omega⟩
end DW
end
section
namespace DW
theorem Zai:∀ x y:List Nat,ltCs x y=true->ltCs y x=false
 | [],[],h=>by simp [ltCs] at h
 | [],_ :: _,_=>rfl
 | _ :: _,[],h=>by simp [ltCs] at h
 | a :: x,b :: y,h=>by
  unfold ltCs at h ⊢
  by_cases e:a=b
  ·rw [if_pos e] at h
   rw [if_pos e.symm]
   exact Zai x y h
  ·rw [if_neg e] at h
   rw [if_neg (fun z=>e z.symm)]
   simp at h ⊢; omega
theorem V7:∀ x y z:List Nat,ltCs y x=false->ltCs z y=false->ltCs z x=false
 | x,y,[],h,k=>by
  cases x with
  | nil=>rfl
  | cons a x =>
   cases y with
   | nil=>simp [ltCs] at h
   | cons b y=>simp [ltCs] at k
 | [],y,c :: z,h,k=>by simp [ltCs]
 | a :: x,[],c :: z,h,k=>by simp [ltCs] at h
 | a :: x,b :: y,c :: z,h,k=>by
  unfold ltCs at h k ⊢
  by_cases e:b=a
  ·by_cases f:c=b
   ·rw [if_pos e] at h; rw [if_pos f] at k; rw [if_pos (f.trans e)]
    exact V7 x y z h k
   ·rw [if_neg f] at k; subst e; rw [if_neg f]; exact k
  ·rw [if_neg e] at h
   by_cases f:c=b
   ·subst f; rw [if_neg e]; exact h
   ·rw [if_neg f] at k
    simp at h k
    rw [if_neg (by omega)]
    simp; omega
theorem Zaz (x y:Itm) (h:lt2 x y=true):lt2 y x=false:=by
 unfold lt2 at h ⊢
 by_cases e:x.1=y.1
 ·rw [if_pos e] at h; rw [if_pos e.symm]; exact Zai _ _ h
 ·rw [if_neg e] at h; rw [if_neg (fun z=>e z.symm)]; simp at h ⊢; omega
theorem Wbl (x y z:Itm) (h:lt2 y x=false) (k:lt2 z y=false):lt2 z x=false:=by
 unfold lt2 at h k ⊢
 by_cases e:y.1=x.1
 ·by_cases f:z.1=y.1
  ·rw [if_pos e] at h; rw [if_pos f] at k; rw [if_pos (f.trans e)]; exact V7 _ _ _ h k
  ·rw [if_neg f] at k; rw [<- e,if_neg f]; exact k
 ·rw [if_neg e] at h
  by_cases f:z.1=y.1
  ·rw [f,if_neg e]; exact h
  ·rw [if_neg f] at k
   simp at h k
   rw [if_neg (by omega)]; simp; omega
end DW
end
section
namespace DW
open PySem PySem.Spec PyProof.Rows L2
noncomputable def keyOf:DKey->Key
 | .inl i=>.inl i
 | .inr x=>.inr ⟨x.toArray⟩
noncomputable def KL (K:PySem.W.Frag) (a:Addr) (xs:List V):Prop :=
 ∃ (o:Obj) (its:Array Value) (n:Nat),K.lookup a=some o/\o.cls = .type "list"/\o.dict=none/\o.data = .seq its n/\its.size<=sizeLine/\Vals xs its.toList
section
variable (K:PySem.W.Frag) (H:Hp) (θ:List Addr) (L:Addr->Prop)
mutual
noncomputable def Rep:D->V->Prop
 | .non,v=>v = .non
 | .bl b,v=>v = .bl b
 | .int i,v=>v = .int i
 | .str x,v=>v = .str ⟨x.toArray⟩/\x.length<=sizeLine
 | .tup ds,v=>∃ a xs,v = .ref a/\H a=some (.tup xs)/\¬ L a/\Reps ds xs
 | .lst ds,v=>∃ a xs,v = .ref a/\H a=some (.lst xs)/\¬ L a/\Reps ds xs
 | .ro ds,v=>∃ a xs,v = .ref a/\((∃ o,H a=some (.frz o (.lst xs))/\¬ L a)∨KL K a xs)/\Reps ds xs
 | .loc n,v=>∃ a,v = .ref a/\θ[n]? = some a
 | .dic ks ds,v=>∃ a kvs,v = .ref a/\H a=some (.dK kvs)/\¬ L a/\kvs.map (·.1)=ks.map keyOf/\Reps ds (kvs.map (·.2))
 | .fdc ks ds,v=>∃ a o kvs,v = .ref a/\H a=some (.frz o (.dK kvs))/\¬ L a/\kvs.map (·.1)=ks.map keyOf/\Reps ds (kvs.map (·.2))
noncomputable def Reps:List D->List V->Prop
 | [],vs=>vs=[]
 | d :: ds,vs=>∃ v r,vs=v :: r/\Rep d v/\Reps ds r
end
end
section
variable {K:PySem.W.Frag} {H H':Hp} {θ θ':List Addr} {L L':Addr->Prop}
mutual
theorem Rep.mono (hp:∀ (n:Nat) (a:Addr),θ[n]? = some a->θ'[n]? = some a) (hk:∀ a o,H a=some o->¬ L a->H' a=some o/\¬ L' a) :
  ∀ (d:D) (v:V),Rep K H θ L d v->Rep K H' θ' L' d v
 | .non,v,h=>by unfold Rep at *; exact h
 | .bl b,v,h=>by unfold Rep at *; exact h
 | .int i,v,h=>by unfold Rep at *; exact h
 | .str x,v,h=>by unfold Rep at *; exact h
 | .tup ds,v,h=>by
  unfold Rep at *
  obtain ⟨a,xs,e,h1,h2,h3⟩:=h
  exact ⟨a,xs,e,(hk a _ h1 h2).1,(hk a _ h1 h2).2,Reps.mono hp hk ds xs h3⟩
 | .lst ds,v,h=>by
  unfold Rep at *
  obtain ⟨a,xs,e,h1,h2,h3⟩:=h
  exact ⟨a,xs,e,(hk a _ h1 h2).1,(hk a _ h1 h2).2,Reps.mono hp hk ds xs h3⟩
 | .ro ds,v,h=>by
  unfold Rep at *
  obtain ⟨a,xs,e,h1,h3⟩:=h
  refine ⟨a,xs,e,?_,Reps.mono hp hk ds xs h3⟩
  rcases h1 with ⟨o,h1,h2⟩ | h1
  ·exact .inl ⟨o,(hk a _ h1 h2).1,(hk a _ h1 h2).2⟩
  ·exact .inr h1
 | .loc n,v,h=>by
  unfold Rep at *
  obtain ⟨a,e,h1⟩:=h
  exact ⟨a,e,hp n a h1⟩
 | .dic ks ds,v,h=>by
  unfold Rep at *
  obtain ⟨a,kvs,e,h1,h2,h3,h4⟩:=h
  exact ⟨a,kvs,e,(hk a _ h1 h2).1,(hk a _ h1 h2).2,h3,Reps.mono hp hk ds _ h4⟩
 | .fdc ks ds,v,h=>by
  unfold Rep at *
  obtain ⟨a,o,kvs,e,h1,h2,h3,h4⟩:=h
  exact ⟨a,o,kvs,e,(hk a _ h1 h2).1,(hk a _ h1 h2).2,h3,Reps.mono hp hk ds _ h4⟩
theorem Reps.mono (hp:∀ (n:Nat) (a:Addr),θ[n]? = some a->θ'[n]? = some a) (hk:∀ a o,H a=some o->¬ L a->H' a=some o/\¬ L' a) :
  ∀ (ds:List D) (vs:List V),Reps K H θ L ds vs->Reps K H' θ' L' ds vs
 | [],vs,h=>by unfold Reps at *; exact h
 | d :: ds,vs,h=>by
  unfold Reps at *
  obtain ⟨v,r,e,h1,h2⟩:=h
  exact ⟨v,r,e,Rep.mono hp hk d v h1,Reps.mono hp hk ds r h2⟩
end
theorem Reps.nil:Reps K H θ L [] []:=by unfold Reps; rfl
theorem Reps.cons {d:D} {ds:List D} {v:V} {vs:List V} (h:Rep K H θ L d v) (r:Reps K H θ L ds vs):Reps K H θ L (d :: ds) (v :: vs):=by
 unfold Reps; exact ⟨v,vs,rfl,h,r⟩
theorem Reps.nil_inv {vs:List V} (h:Reps K H θ L [] vs):vs=[]:=by unfold Reps at h; exact h
theorem Reps.cons_inv {d:D} {ds:List D} {vs:List V} (h:Reps K H θ L (d :: ds) vs):∃ v r,vs=v :: r/\Rep K H θ L d v/\Reps K H θ L ds r:=by
 unfold Reps at h; exact h
theorem Reps.length:∀ {ds:List D} {vs:List V},Reps K H θ L ds vs->ds.length=vs.length
 | [],vs,h=>by rw [h.nil_inv]; rfl
 | d :: ds,vs,h=>by
  obtain ⟨v,r,rfl,_,h2⟩:=h.cons_inv
  simp [h2.length]
theorem Reps.get:∀ {ds:List D} {vs:List V} {i:Nat} {d:D},Reps K H θ L ds vs->ds[i]? = some d->∃ v,vs[i]? = some v/\Rep K H θ L d v
 | [],_,_,_,_,e=>by simp at e
 | d :: ds,vs,i,d',h,e=>by
  obtain ⟨v,r,rfl,h1,h2⟩:=h.cons_inv
  cases i with
  | zero=>simp at e; subst e; exact ⟨v,rfl,h1⟩
  | succ i =>
   obtain ⟨w,e1,e2⟩:=Reps.get (i:=i) h2 (by simpa using e)
   exact ⟨w,by simpa using e1,e2⟩
theorem Reps.append:∀ {ds es:List D} {vs ws:List V},Reps K H θ L ds vs->Reps K H θ L es ws->Reps K H θ L (ds ++ es) (vs ++ ws)
 | [],_,_,_,h,k=>by rw [h.nil_inv]; exact k
 | d :: ds,_,_,_,h,k=>by
  obtain ⟨v,r,rfl,h1,h2⟩:=h.cons_inv
  exact Reps.cons h1 (h2.append k)
theorem Reps.take:∀ {ds:List D} {vs:List V} (n:Nat),Reps K H θ L ds vs->Reps K H θ L (ds.take n) (vs.take n)
 | _,_,0,_=>by simpa using Reps.nil
 | [],_,n + 1,h=>by rw [h.nil_inv]; simpa using Reps.nil
 | d :: ds,_,n + 1,h=>by
  obtain ⟨v,r,rfl,h1,h2⟩:=h.cons_inv
  exact Reps.cons h1 (h2.take n)
theorem Reps.drop:∀ {ds:List D} {vs:List V} (n:Nat),Reps K H θ L ds vs->Reps K H θ L (ds.drop n) (vs.drop n)
 | _,_,0,h=>h
 | [],_,n + 1,h=>by rw [h.nil_inv]; simpa using Reps.nil
 | d :: ds,_,n + 1,h=>by
  obtain ⟨v,r,rfl,h1,h2⟩:=h.cons_inv
  exact h2.drop n
theorem Reps.set {d':D} {v':V} (hd:Rep K H θ L d' v'):∀ {ds:List D} {vs:List V} (n:Nat),Reps K H θ L ds vs->Reps K H θ L (ds.set n d') (vs.set n v')
 | [],_,n,h=>by rw [h.nil_inv]; simpa using Reps.nil
 | d :: ds,_,0,h=>by
  obtain ⟨v,r,rfl,h1,h2⟩:=h.cons_inv
  exact Reps.cons hd h2
 | d :: ds,_,n + 1,h=>by
  obtain ⟨v,r,rfl,h1,h2⟩:=h.cons_inv
  exact Reps.cons h1 (h2.set hd n)
theorem Reps.one {d:D} {v:V} (h:Rep K H θ L d v):Reps K H θ L [d] [v]:=Reps.cons h Reps.nil
theorem Reps.reverse:∀ {ds:List D} {vs:List V},Reps K H θ L ds vs->Reps K H θ L ds.reverse vs.reverse
 | [],_,h=>by rw [h.nil_inv]; simpa using Reps.nil
 | d :: ds,_,h=>by
  obtain ⟨v,r,rfl,h1,h2⟩:=h.cons_inv
  rw [List.reverse_cons,List.reverse_cons]
  exact h2.reverse.append (Reps.one h1)
end
noncomputable def Live (θ:List Addr) (μ:Mem) (a:Addr):Prop:=∃ (n:Nat) (c:Cell),θ[n]? = some a/\μ[n]? = some c/\c≠.gone
noncomputable abbrev Rp (K:PySem.W.Frag) (H:Hp) (θ:List Addr) (μ:Mem):D->V->Prop:=Rep K H θ (Live θ μ)
noncomputable abbrev Rps (K:PySem.W.Frag) (H:Hp) (θ:List Addr) (μ:Mem):List D->List V->Prop:=Reps K H θ (Live θ μ)
noncomputable def ExcAt (x C:Addr) (h:Heap):Prop:=∃ o,h.get? x=some o/\o.cls = .ref C
noncomputable def DcO (a:Addr) (fs:List (Str×V)):HO:=.ext fun h=>∃ mA,h.Ns1 a mA/\(∀ f,RelO (fs.lookup f) (mA f))/\PySem.Within mA (fs.map (·.1))
noncomputable def ErrD (K:PySem.W.Frag) (H:Hp) (θ:List Addr) (μ:Mem) (ks:List String) (ds:List D) (dx:Option Addr):Prop :=
 (ks=[]/\dx=none)∨(ks≠[]/\∃ x fs,dx=some x/\H x=some (DcO x fs)/\¬ Live θ μ x/\fs.map (·.1)=ks.map (fun k=>Str.ofString k)/\Rps K H θ μ ds (fs.map (·.2)))
noncomputable def lamDef:Str:="shortest"
noncomputable def lamQ:Str:="shortest" ++ ".<locals>." ++ "<lambda>"
noncomputable def CellOk (K:PySem.W.Frag) (H:Hp) (θ:List Addr) (μ:Mem) (a:Addr):Cell->Prop
 | .lst ds=>∃ xs,H a=some (.lst xs)/\Rps K H θ μ ds xs
 | .ins c fs=>∃ C dx fs',PySem.W.nsIn K mainGlobals (Str.ofString c)=some (some (.ref C))/\H a=some (.ins C dx fs')/\fs'.map (·.1)=fs.map (fun p=>Str.ofString p.1)/\Rps K H θ μ (fs.map (·.2)) (fs'.map (·.2))
 | .dic ks ds=>∃ kvs,H a=some (.dK kvs)/\kvs.map (·.1)=ks.map keyOf/\Rps K H θ μ ds (kvs.map (·.2))
 | .dtc ks ds=>∃ kvs,H a=some (.dT kvs)/\kvs.map (·.1)=ks.map (·.map keyOf)/\Rps K H θ μ ds (kvs.map (·.2))
 | .fdt o ks ds=>∃ kvs,H a=some (.frz o (.dT kvs))/\kvs.map (·.1)=ks.map (·.map keyOf)/\Rps K H θ μ ds (kvs.map (·.2))
 | .fdi o ks ds=>∃ kvs,H a=some (.frz o (.dK kvs))/\kvs.map (·.1)=ks.map keyOf/\Rps K H θ μ ds (kvs.map (·.2))
 | .exc c ks ds=>∃ C o u,PySem.W.nsIn K mainGlobals (Str.ofString c)=some (some (.ref C))/\H a=some (.frz o u)/\o.cls = .ref C/\PySem.W.notCls o=true/\ErrD K H θ μ ks ds o.dict
 | .gone=>True
 | .tbl=>∃ (tc:Addr) (t:Tab),PySem.W.tabIn K lamDef=some (tc,a)/\H a=some (.tbl t)/\t.q=lamQ
structure WOk (K:PySem.W.Frag) (H:Hp) (θ:List Addr) (μ:Mem):Prop where
 len:θ.length=μ.length
 inj:∀ (m n:Nat) (a:Addr),θ[m]? = some a->θ[n]? = some a->m=n
 bnd:∀ (n:Nat) (a:Addr),θ[n]? = some a->H a≠none
 cell:∀ (n:Nat) (c:Cell) (a:Addr),μ[n]? = some c->θ[n]? = some a->CellOk K H θ μ a c
structure Grow (H:Hp) (θ:List Addr) (μ:Mem) (H':Hp) (θ':List Addr) (μ':Mem):Prop where
 pre:∀ (n:Nat) (a:Addr),θ[n]? = some a->θ'[n]? = some a
 keep:∀ a o,H a=some o->¬ Live θ μ a->H' a=some o/\¬ Live θ' μ' a
section
variable {K:PySem.W.Frag} {H H' H'':Hp} {θ θ' θ'':List Addr} {μ μ' μ'':Mem} {p a:Addr} {n:Nat} {ds:List D} {xs:List V} {d:D} {v:V}
theorem Grow.refl:Grow H θ μ H θ μ:=⟨fun _ _ h=>h,fun _ _ h k=>⟨h,k⟩⟩
theorem Grow.trans (g:Grow H θ μ H' θ' μ') (g':Grow H' θ' μ' H'' θ'' μ''):Grow H θ μ H'' θ'' μ'' :=
 ⟨fun n a h=>g'.pre n a (g.pre n a h),fun a o h k=>let ⟨x,y⟩:=g.keep a o h k; g'.keep a o x y⟩
theorem Grow.rep (g:Grow H θ μ H' θ' μ') (h:Rp K H θ μ d v):Rp K H' θ' μ' d v:=Rep.mono g.pre g.keep d v h
theorem Grow.reps (g:Grow H θ μ H' θ' μ') (h:Rps K H θ μ ds xs):Rps K H' θ' μ' ds xs:=Reps.mono g.pre g.keep ds xs h
theorem WOk.notIn (w:WOk K H θ μ) (hp:H p=none) (n:Nat):θ[n]?≠some p:=fun e=>w.bnd n p e hp
theorem WOk.notLive (w:WOk K H θ μ) (hp:H p=none):¬ Live θ μ p:=fun ⟨n,_,e,_⟩=>w.notIn hp n e
theorem Grow.ext (e:∀ a o,H a=some o->H' a=some o):Grow H θ μ H' θ μ:=⟨fun _ _ h=>h,fun a o h k=>⟨e a o h,k⟩⟩
theorem ErrD.mono {ks:List String} {dx:Option Addr} (kp:Grow H θ μ H' θ' μ') (h:ErrD K H θ μ ks ds dx):ErrD K H' θ' μ' ks ds dx:=by
 rcases h with h | ⟨h0,x,fs,h1,h2,h3,h4,h5⟩
 ·exact .inl h
 ·exact .inr ⟨h0,x,fs,h1,(kp.keep x _ h2 h3).1,(kp.keep x _ h2 h3).2,h4,kp.reps h5⟩
theorem CellOk.mono {c:Cell} (kp:Grow H θ μ H' θ' μ') (e:∀ o,H a=some o->H' a=some o) (h:CellOk K H θ μ a c):CellOk K H' θ' μ' a c:=by
 cases c with
 | lst ds=>obtain ⟨xs,h1,h2⟩:=h; exact ⟨xs,e _ h1,kp.reps h2⟩
 | ins c fs=>obtain ⟨C,dx,fs',h0,h1,h2,h3⟩:=h; exact ⟨C,dx,fs',h0,e _ h1,h2,kp.reps h3⟩
 | dic ks ds=>obtain ⟨kvs,h1,h2,h3⟩:=h; exact ⟨kvs,e _ h1,h2,kp.reps h3⟩
 | dtc ks ds=>obtain ⟨kvs,h1,h2,h3⟩:=h; exact ⟨kvs,e _ h1,h2,kp.reps h3⟩
 | fdt o ks ds=>obtain ⟨kvs,h1,h2,h3⟩:=h; exact ⟨kvs,e _ h1,h2,kp.reps h3⟩
 | fdi o ks ds=>obtain ⟨kvs,h1,h2,h3⟩:=h; exact ⟨kvs,e _ h1,h2,kp.reps h3⟩
 | exc c ks ds=>obtain ⟨C,o,u,h1,h2,h3,h5,h4⟩:=h; exact ⟨C,o,u,h1,e _ h2,h3,h5,h4.mono kp⟩
 | gone=>trivial
 | tbl=>obtain ⟨tc,t,h1,h2,h3⟩:=h; exact ⟨tc,t,h1,e _ h2,h3⟩
theorem WOk.ext (w:WOk K H θ μ) (e:∀ a o,H a=some o->H' a=some o):WOk K H' θ μ where
 len:=w.len
 inj:=w.inj
 bnd:=fun n a h k=>by
  cases q:H a with
  | none=>exact w.bnd n a h q
  | some o=>rw [e a o q] at k; cases k
 cell:=fun n c a h k=>(w.cell n c a h k).mono (Grow.ext e) (e a)
theorem Wh {o:HO} (hp:H p=none):∀ a u,H a=some u->(upd H p o) a=some u:=fun a u h=>by
 rw [Vb (Xc h hp)]; exact h
theorem Zas {α:Type} {l:List α} {x y:α} {n:Nat} (h:l[n]? = some y):(l ++ [x])[n]? = some y:=by
 have hl:n < l.length:=(List.getElem?_eq_some_iff.mp h).1
 rw [List.getElem?_append_left hl]; exact h
theorem Vi {α:Type} {l:List α} {x y:α} {n:Nat} (h:(l ++ [x])[n]? = some y):l[n]? = some y∨(n=l.length/\x=y):=by
 by_cases hn:n < l.length
 ·rw [List.getElem?_append_left hn] at h; exact .inl h
 ·rw [List.getElem?_append_right (by omega)] at h
  have:n - l.length=0:=by
   cases e:n - l.length with
   | zero=>rfl
   | succ k=>rw [e] at h; simp at h
  rw [this] at h
  simp at h
  exact .inr ⟨by omega,h⟩
theorem Grow.new {c:Cell} {o:HO} (w:WOk K H θ μ) (hp:H p=none):Grow H θ μ (upd H p o) (θ ++ [p]) (μ ++ [c]) where
 pre:=fun n a h=>Zas h
 keep:=fun a u h k=>by
  refine ⟨Wh hp a u h,?_⟩
  rintro ⟨n,c',e1,e2,e3⟩
  rcases Vi e1 with e1 | ⟨e1,rfl⟩
  ·rcases Vi e2 with e2 | ⟨e2,_⟩
   ·exact k ⟨n,c',e1,e2,e3⟩
   ·have:=(List.getElem?_eq_some_iff.mp e1).1
    have:=w.len
    omega
  ·rw [hp] at h; cases h
theorem WOk.new {c:Cell} {o:HO} (w:WOk K H θ μ) (hp:H p=none) (hc:CellOk K (upd H p o) (θ ++ [p]) (μ ++ [c]) p c):WOk K (upd H p o) (θ ++ [p]) (μ ++ [c]) where
 len:=by simp [w.len]
 inj:=fun m n a h k=>by
  rcases Vi h with h1 | ⟨h1,rfl⟩
  ·rcases Vi k with k1 | ⟨k1,rfl⟩
   ·exact w.inj m n a h1 k1
   ·exact absurd h1 (w.notIn hp m)
  ·rcases Vi k with k1 | ⟨k1,_⟩
   ·exact absurd k1 (w.notIn hp n)
   ·rw [h1,k1]
 bnd:=fun n a h=>by
  rcases Vi h with h | ⟨h,rfl⟩
  ·intro k
   cases q:H a with
   | none=>exact w.bnd n a h q
   | some u=>rw [Wh hp a u q] at k; cases k
  ·rw [Yc]; simp
 cell:=fun n c' a h k=>by
  rcases Vi k with k | ⟨k,rfl⟩
  ·rcases Vi h with h | ⟨h,rfl⟩
   ·exact (w.cell n c' a h k).mono (Grow.new w hp) (Wh hp a)
   ·have:=(List.getElem?_eq_some_iff.mp k).1
    have:=w.len
    omega
  ·rcases Vi h with h | ⟨h,rfl⟩
   ·have:=(List.getElem?_eq_some_iff.mp h).1
    have:=w.len
    omega
   ·exact hc
theorem live_set {c c':Cell} (hn:μ[n]? = some c) (h1:c≠.gone) (h2:c'≠.gone):Live θ (μ.set n c') a<->Live θ μ a:=by
 constructor
 ·rintro ⟨m,e,k1,k2,k3⟩
  by_cases q:m=n
  ·subst q; exact ⟨m,c,k1,hn,h1⟩
  ·rw [List.getElem?_set_ne (Ne.symm q)] at k2; exact ⟨m,e,k1,k2,k3⟩
 ·rintro ⟨m,e,k1,k2,k3⟩
  by_cases q:m=n
  ·subst q
   refine ⟨m,c',k1,?_,h2⟩
   rw [List.getElem?_set_self (List.getElem?_eq_some_iff.mp hn).1]
  ·exact ⟨m,e,k1,by rw [List.getElem?_set_ne (Ne.symm q)]; exact k2,k3⟩
theorem Grow.write {c c':Cell} {o:HO} (hn:μ[n]? = some c) (ha:θ[n]? = some a) (h1:c≠.gone) (h2:c'≠.gone):Grow H θ μ (upd H a o) θ (μ.set n c') where
 pre:=fun _ _ h=>h
 keep:=fun b u h k=>by
  have:b≠a:=by rintro rfl; exact k ⟨n,c,ha,hn,h1⟩
  exact ⟨by rw [Vb this]; exact h,fun z=>k ((live_set hn h1 h2).mp z)⟩
theorem WOk.write {c c':Cell} {o:HO} (w:WOk K H θ μ) (hn:μ[n]? = some c) (ha:θ[n]? = some a) (h1:c≠.gone) (h2:c'≠.gone) (hc:CellOk K (upd H a o) θ (μ.set n c') a c'):WOk K (upd H a o) θ (μ.set n c') where
 len:=by simp [w.len]
 inj:=w.inj
 bnd:=fun m b h k=>by
  unfold upd at k
  split at k
  ·cases k
  ·exact w.bnd m b h k
 cell:=fun m c1 b h k=>by
  by_cases q:m=n
  ·subst q
   rw [List.getElem?_set_self (List.getElem?_eq_some_iff.mp hn).1] at h
   cases h
   rw [ha] at k; cases k
   exact hc
  ·rw [List.getElem?_set_ne (Ne.symm q)] at h
   have hb:b≠a:=fun z=>q (w.inj m n b k (by rw [z]; exact ha))
   exact (w.cell m c1 b h k).mono (Grow.write hn ha h1 h2) fun u e=>by rw [Vb hb]; exact e
theorem Grow.frz:Grow H θ μ H θ (μ.set n .gone) where
 pre:=fun _ _ h=>h
 keep:=fun b u h k=>⟨h,fun ⟨m,c,k1,k2,k3⟩=>by
  by_cases q:m=n
  ·subst q
   by_cases hl:m < μ.length
   ·rw [List.getElem?_set_self hl] at k2; cases k2; exact k3 rfl
   ·rw [List.set_eq_of_length_le (by omega)] at k2; exact k ⟨m,c,k1,k2,k3⟩
  ·rw [List.getElem?_set_ne (Ne.symm q)] at k2; exact k ⟨m,c,k1,k2,k3⟩⟩
theorem WOk.frz (w:WOk K H θ μ):WOk K H θ (μ.set n .gone) where
 len:=by simp [w.len]
 inj:=w.inj
 bnd:=w.bnd
 cell:=fun m c1 b h k=>by
  by_cases q:m=n
  ·subst q
   by_cases hl:m < μ.length
   ·rw [List.getElem?_set_self hl] at h; cases h; trivial
   ·rw [List.set_eq_of_length_le (by omega)] at h ⊢; exact w.cell m c1 b h k
  ·rw [List.getElem?_set_ne (Ne.symm q)] at h
   exact (w.cell m c1 b h k).mono Grow.frz fun _ e=>e
theorem WOk.list (w:WOk K H θ μ) (hn:μ[n]? = some (.lst ds)) (ha:θ[n]? = some a):∃ xs,H a=some (.lst xs)/\Rps K H θ μ ds xs:=w.cell n _ a hn ha
end
structure Sim (K:PySem.W.Frag) (σ:L2.St) (H:Hp) (ρ:Rho) (θ:List Addr) (μ:Mem):Prop where
 wok:WOk K H θ μ
 len:ρ.length=σ.length
 val:∀ (i:Nat) (d:D),ρ[i]? = some (some d)->∃ v,σ[i]? = some (some v)/\Rp K H θ μ d v
noncomputable def Fin (K:PySem.W.Frag) (H:Hp) (θ:List Addr) (μ:Mem) (Qd:QD) (Q:VK):Prop :=
 ∀ (d:D) (v:V) (H':Hp) (θ':List Addr) (μ':Mem),WOk K H' θ' μ'->Grow H θ μ H' θ' μ'->Rp K H' θ' μ' d v->Qd d μ'->Q v H'
noncomputable abbrev WE:=Rho->Mem->QD->Prop
noncomputable def LE (K:PySem.W.Frag) (w:WE):TE:=fun σ H Q=>∃ ρ θ μ Qd,Sim K σ H ρ θ μ/\w ρ μ Qd/\Fin K H θ μ Qd Q
noncomputable abbrev WT:=Rho->Mem->(Bool->Mem->Prop)->Prop
noncomputable def LT (K:PySem.W.Frag) (w:WT):TT:=fun σ H Q=>∃ ρ θ μ Qd,Sim K σ H ρ θ μ/\w ρ μ Qd /\
 ∀ (b:Bool) (H':Hp) (θ':List Addr) (μ':Mem),WOk K H' θ' μ'->Grow H θ μ H' θ' μ'->Qd b μ'->Q b H'
noncomputable abbrev WA:=Rho->Mem->(List D->Mem->Prop)->Prop
noncomputable def LA (K:PySem.W.Frag) (w:WA):TA:=fun σ H Q=>∃ ρ θ μ Qd,Sim K σ H ρ θ μ/\w ρ μ Qd /\
 ∀ (ds:List D) (vs:List V) (H':Hp) (θ':List Addr) (μ':Mem),WOk K H' θ' μ'->Grow H θ μ H' θ' μ'->Rps K H' θ' μ' ds vs->Qd ds μ'->Q vs H'
noncomputable abbrev WS:=DEnds->Rho->Mem->Prop
noncomputable def XLand (K:PySem.W.Frag) (E:XK) (H:Hp) (θ:List Addr) (μ:Mem) (c:String) (ks:List String) (ds:List D):Prop:=∃ C,PySem.W.nsIn K mainGlobals (Str.ofString c)=some (some (.ref C))/\∀ dx,ErrD K H θ μ ks ds dx->E (.ref C) dx H
structure FinS (K:PySem.W.Frag) (EX:L2.St->XK) (H:Hp) (θ:List Addr) (μ:Mem) (Z:DEnds) (D:Ends):Prop where
 nx:∀ σ' H' ρ' θ' μ',Sim K σ' H' ρ' θ' μ'->Grow H θ μ H' θ' μ'->Z.nx ρ' μ'->D.nx σ' H'
 rt:Fin K H θ μ Z.rt D.rt
 bk:∀ σ' H' ρ' θ' μ',Sim K σ' H' ρ' θ' μ'->Grow H θ μ H' θ' μ'->Z.bk ρ' μ'->D.bk σ' H'
 ct:∀ σ' H' ρ' θ' μ',Sim K σ' H' ρ' θ' μ'->Grow H θ μ H' θ' μ'->Z.ct ρ' μ'->D.ct σ' H'
 xc:∀ σ' H' ρ' θ' μ' c ks ds,Sim K σ' H' ρ' θ' μ'->Grow H θ μ H' θ' μ'->Z.xc ρ' c ks ds μ'->XLand K (EX σ') H' θ' μ' c ks ds
noncomputable def LS (K:PySem.W.Frag) (EX:L2.St->XK) (w:WS):TS:=fun D σ H=>∃ ρ θ μ Z,Sim K σ H ρ θ μ/\w Z ρ μ/\FinS K EX H θ μ Z D
section
variable {K:PySem.W.Frag} {H H' H'':Hp} {θ θ' θ'':List Addr} {μ μ' μ'':Mem} {σ:L2.St} {ρ:Rho} {i:Nat} {d:D} {v:V} {Qd:QD} {Q:VK}
theorem Sim.grow (s:Sim K σ H ρ θ μ) (w:WOk K H' θ' μ') (g:Grow H θ μ H' θ' μ'):Sim K σ H' ρ θ' μ' :=
 ⟨w,s.len,fun i d h=>let ⟨v,e,r⟩:=s.val i d h; ⟨v,e,g.rep r⟩⟩
theorem Sim.set (s:Sim K σ H ρ θ μ) (r:Rp K H θ μ d v) (i:Nat):Sim K (σ.set i (some v)) H (ρ.set i (some d)) θ μ :=
 ⟨s.wok,by simp [s.len],fun j e h=>by
  by_cases q:j=i
  ·subst q
   by_cases hl:j < ρ.length
   ·rw [List.getElem?_set_self hl] at h
    cases h
    exact ⟨v,by rw [List.getElem?_set_self (by rw [<- s.len]; exact hl)],r⟩
   ·rw [List.getElem?_eq_none (by simp; omega)] at h; cases h
  ·rw [List.getElem?_set_ne (Ne.symm q)] at h ⊢
   exact s.val j e h⟩
theorem Fin.mono (f:Fin K H θ μ Qd Q) (g:Grow H θ μ H' θ' μ'):Fin K H' θ' μ' Qd Q:=fun d v H'' θ'' μ'' w g' r q=>f d v H'' θ'' μ'' w (g.trans g') r q
theorem Fin.at (f:Fin K H θ μ Qd Q) (w:WOk K H θ μ) (r:Rp K H θ μ d v) (q:Qd d μ):Q v H:=f d v H θ μ w Grow.refl r q
theorem FinS.mono {EX:L2.St->XK} {Z:DEnds} {D:Ends} (f:FinS K EX H θ μ Z D) (g:Grow H θ μ H' θ' μ'):FinS K EX H' θ' μ' Z D :=
 ⟨fun σ' H' ρ' θ' μ' s g' z=>f.nx σ' H' ρ' θ' μ' s (g.trans g') z,f.rt.mono g,fun σ' H' ρ' θ' μ' s g' z=>f.bk σ' H' ρ' θ' μ' s (g.trans g') z,fun σ' H' ρ' θ' μ' s g' z=>f.ct σ' H' ρ' θ' μ' s (g.trans g') z,fun σ' H' ρ' θ' μ' c ks ds s g' z=>f.xc σ' H' ρ' θ' μ' c ks ds s (g.trans g') z⟩
end
end DW
end
section
namespace DW
open PySem PySem.Spec PyProof.Rows L2
section
variable {X:Cx}
theorem PE.wk {e:Expr} {t t':TE} (h:PE X e t) (m:∀ σ H Q,t' σ H Q->t σ H Q):PE X e t':=fun pins s σ H Q I hw=>h pins s σ H Q I (m σ H Q hw)
theorem PT.wk {e:Expr} {t t':TT} (h:PT X e t) (m:∀ σ H Q,t' σ H Q->t σ H Q):PT X e t':=fun pins s σ H Q I hw=>h pins s σ H Q I (m σ H Q hw)
theorem PW.wk {e:Expr} {t t':TT} (h:PW X e t) (m:∀ σ H Q,t' σ H Q->t σ H Q):PW X e t':=fun wh pins s σ H Q I hw=>h wh pins s σ H Q I (m σ H Q hw)
theorem PA.wk {es:List Expr} {t t':TA} (h:PA X es t) (m:∀ σ H Q,t' σ H Q->t σ H Q):PA X es t':=fun pos pins s σ H Q I hw=>h pos pins s σ H Q I (m σ H Q hw)
theorem PS.wk {st:Stmt} {t t':TS} (h:PS X st t) (m:∀ D σ H,t' D σ H->t D σ H):PS X st t':=fun pins s σ H D I hw=>h pins s σ H D I (m D σ H hw)
theorem PSs.wk {st:List Stmt} {t t':TS} (h:PSs X st t) (m:∀ D σ H,t' D σ H->t D σ H):PSs X st t':=fun pins s σ H D I hw=>h pins s σ H D I (m D σ H hw)
end
theorem Ys:lim=sizeLine:=by rw [sizeLine_eq]; rfl
noncomputable def low2 (K:PySem.W.Frag) (w:D->D->Mem->QD->Prop):R2:=fun x y H Q=>∃ d e θ μ Qd,WOk K H θ μ/\Rp K H θ μ d x/\Rp K H θ μ e y/\w d e μ Qd/\Fin K H θ μ Qd Q
noncomputable def lowA (K:PySem.W.Frag) (w:List D->Mem->QD->Prop):List V->Hp->VK->Prop:=fun vs H Q=>∃ ds θ μ Qd,WOk K H θ μ/\Rps K H θ μ ds vs/\w ds μ Qd/\Fin K H θ μ Qd Q
noncomputable def lowM (K:PySem.W.Frag) (w:D->List D->Mem->QD->Prop):V->List V->Hp->VK->Prop:=fun x vs H Q=>∃ d ds θ μ Qd,WOk K H θ μ/\Rp K H θ μ d x/\Rps K H θ μ ds vs/\w d ds μ Qd/\Fin K H θ μ Qd Q
section
variable {K:PySem.W.Frag} {H H':Hp} {θ θ':List Addr} {μ μ':Mem} {σ:L2.St} {ρ:Rho} {Qd:QD} {Q:VK} {ds:List D} {xs:List V} {p a:Addr}
theorem W6:Rp K H θ μ .non .non:=by unfold Rep; rfl
theorem Vl {b:Bool}:Rp K H θ μ (.bl b) (.bl b):=by unfold Rep; rfl
theorem Yd {i:Int}:Rp K H θ μ (.int i) (.int i):=by unfold Rep; rfl
theorem Wr {x:List Nat} (h:x.length<=sizeLine):Rp K H θ μ (.str x) (.str ⟨x.toArray⟩):=by unfold Rep; exact ⟨rfl,h⟩
theorem Yv {v:V} (h:Rp K H θ μ .non v):v = .non:=by unfold Rep at h; exact h
theorem Vh {b:Bool} {v:V} (h:Rp K H θ μ (.bl b) v):v = .bl b:=by unfold Rep at h; exact h
theorem Zb {i:Int} {v:V} (h:Rp K H θ μ (.int i) v):v = .int i:=by unfold Rep at h; exact h
theorem Vc {x:List Nat} {v:V} (h:Rp K H θ μ (.str x) v):v = .str ⟨x.toArray⟩/\x.length<=sizeLine:=by unfold Rep at h; exact h
theorem Zf {v:V} (h:Rp K H θ μ (.tup ds) v):∃ a xs,v = .ref a/\H a=some (.tup xs)/\¬ Live θ μ a/\Rps K H θ μ ds xs:=by unfold Rep at h; exact h
theorem Wj {v:V} (h:Rp K H θ μ (.lst ds) v):∃ a xs,v = .ref a/\H a=some (.lst xs)/\¬ Live θ μ a/\Rps K H θ μ ds xs:=by unfold Rep at h; exact h
theorem Va0 {v:V} (h:Rp K H θ μ (.ro ds) v):∃ a xs,v = .ref a/\((∃ o,H a=some (.frz o (.lst xs))/\¬ Live θ μ a)∨KL K a xs)/\Rps K H θ μ ds xs:=by unfold Rep at h; exact h
theorem Ye {n:Nat} {v:V} (h:Rp K H θ μ (.loc n) v):∃ a,v = .ref a/\θ[n]? = some a:=by unfold Rep at h; exact h
theorem Xar {ks:List DKey} {v:V} (h:Rp K H θ μ (.dic ks ds) v):∃ a kvs,v = .ref a/\H a=some (.dK kvs)/\¬ Live θ μ a/\kvs.map (·.1)=ks.map keyOf/\Rps K H θ μ ds (kvs.map (·.2)):=by unfold Rep at h; exact h
theorem Ybq {ks:List DKey} {v:V} (h:Rp K H θ μ (.fdc ks ds) v):∃ a o kvs,v = .ref a/\H a=some (.frz o (.dK kvs))/\¬ Live θ μ a/\kvs.map (·.1)=ks.map keyOf/\Rps K H θ μ ds (kvs.map (·.2)):=by unfold Rep at h; exact h
theorem Xa3 (h:(∃ o,H a=some (.frz o (.lst xs))/\¬ Live θ μ a)∨KL K a xs):SqL K H a xs:=by
 rcases h with ⟨o,h,_⟩ | h
 ·exact .inl (.inr ⟨o,h⟩)
 ·exact .inr h
theorem Zi {d:D} {v:V} (wk:WOk K H θ μ) (r:Rp K H θ μ d v) (h:Wb μ d=some ds):∃ a xs,v = .ref a/\(SqL K H a xs∨SqT K H a xs)/\Rps K H θ μ ds xs:=by
 cases d with
 | lst es=>simp only [Wb,Option.some.injEq] at h; subst h; obtain ⟨a,xs,e,h1,_,h3⟩:=Wj r; exact ⟨a,xs,e,.inl (.of h1),h3⟩
 | tup es=>simp only [Wb,Option.some.injEq] at h; subst h; obtain ⟨a,xs,e,h1,_,h3⟩:=Zf r; exact ⟨a,xs,e,.inr (.of h1),h3⟩
 | ro es=>simp only [Wb,Option.some.injEq] at h; subst h; obtain ⟨a,xs,e,h1,h3⟩:=Va0 r; exact ⟨a,xs,e,.inl (Xa3 h1),h3⟩
 | loc n =>
  obtain ⟨a,e,h1⟩:=Ye r
  simp only [Wb] at h
  split at h
  ·rename_i es hn
   simp only [Option.some.injEq] at h; subst h
   obtain ⟨xs,h2,h3⟩:=wk.list hn h1
   exact ⟨a,xs,e,.inl (.of h2),h3⟩
  ·cases h
 | _=>simp [Wb] at h
theorem Vz (wk:WOk K H θ μ) (f:Fin K H θ μ Qd Q) (r:Rps K H θ μ ds xs) (h:Qd (.tup ds) μ) (hp:H p=none):Q (.ref p) (upd H p (.tup xs)):=by
 refine f (.tup ds) (.ref p) _ θ μ (wk.ext (Wh hp)) (Grow.ext (Wh hp)) ?_ h
 unfold Rep
 exact ⟨p,xs,rfl,Yc,wk.notLive hp,(Grow.ext (Wh hp)).reps r⟩
theorem Z0 (wk:WOk K H θ μ) (f:Fin K H θ μ Qd Q) (r:Rps K H θ μ ds xs) (h:Qd (.lst ds) μ) (hp:H p=none):Q (.ref p) (upd H p (.lst xs)):=by
 refine f (.lst ds) (.ref p) _ θ μ (wk.ext (Wh hp)) (Grow.ext (Wh hp)) ?_ h
 unfold Rep
 exact ⟨p,xs,rfl,Yc,wk.notLive hp,(Grow.ext (Wh hp)).reps r⟩
theorem new_cell (wk:WOk K H θ μ) (f:Fin K H θ μ Qd Q) (r:Rps K H θ μ ds xs) (h:Qd (.loc μ.length) (μ ++ [.lst ds])) (hp:H p=none):Q (.ref p) (upd H p (.lst xs)):=by
 have g:Grow H θ μ (upd H p (.lst xs)) (θ ++ [p]) (μ ++ [.lst ds]):=Grow.new wk hp
 refine f (.loc μ.length) (.ref p) _ (θ ++ [p]) (μ ++ [.lst ds]) (wk.new (c:=.lst ds) hp (show CellOk K _ _ _ p (.lst ds) from ⟨xs,Yc,g.reps r⟩)) g ?_ h
 unfold Rep
 exact ⟨p,rfl,by rw [<- wk.len]; simp⟩
theorem Y0 {m:Bool} (wk:WOk K H θ μ) (f:Fin K H θ μ Qd Q) (r:Rps K H θ μ ds xs) (h:newL m ds μ Qd) (hp:H p=none):Q (.ref p) (upd H p (.lst xs)):=by
 cases m with
 | true=>exact new_cell wk f r h hp
 | false=>exact Z0 wk f r h hp
end
section
variable {K:PySem.W.Frag} {σ:L2.St} {H:Hp} {Q:VK} {wa wb wc:WE}
theorem Yai {w:D->D->Mem->QD->Prop} (h:LE K (fun ρ μ Q=>wa ρ μ fun x μ1=>wb ρ μ1 fun y μ2=>w x y μ2 Q) σ H Q):tOp (low2 K w) (LE K wa) (LE K wb) σ H Q:=by
 obtain ⟨ρ,θ,μ,Qd,s,h,f⟩:=h
 refine ⟨ρ,θ,μ,_,s,h,fun x v H1 θ1 μ1 w1 g1 r1 h1=>⟨ρ,θ1,μ1,_,s.grow w1 g1,h1,fun y v2 H2 θ2 μ2 w2 g2 r2 h2=>?_⟩⟩
 exact ⟨x,y,θ2,μ2,Qd,w2,g2.rep r1,r2,h2,f.mono (g1.trans g2)⟩
theorem le_args {w:List D->Mem->QD->Prop} {ws:WA} (h:LE K (fun ρ μ Q=>ws ρ μ fun ds μ1=>w ds μ1 Q) σ H Q):LA K ws σ H (fun vs H1=>lowA K w vs H1 Q):=by
 obtain ⟨ρ,θ,μ,Qd,s,h,f⟩:=h
 exact ⟨ρ,θ,μ,_,s,h,fun ds vs H1 θ1 μ1 w1 g1 r1 h1=>⟨ds,θ1,μ1,Qd,w1,r1,h1,f.mono g1⟩⟩
theorem la_cons {ws:WA} {Q:List V->Hp->Prop} (h:LA K (fun ρ μ Q=>wa ρ μ fun d μ1=>ws ρ μ1 fun ds μ2=>Q (d :: ds) μ2) σ H Q):tCons (LE K wa) (LA K ws) σ H Q:=by
 obtain ⟨ρ,θ,μ,Qd,s,h,f⟩:=h
 refine ⟨ρ,θ,μ,_,s,h,fun x v H1 θ1 μ1 w1 g1 r1 h1=>⟨ρ,θ1,μ1,_,s.grow w1 g1,h1,fun ds vs H2 θ2 μ2 w2 g2 r2 h2=>?_⟩⟩
 exact f (x :: ds) (v :: vs) H2 θ2 μ2 w2 (g1.trans g2) (.cons (g2.rep r1) r2) h2
end
section
variable {X:Cx}
theorem pa_nilD:PA X [] (LA X.K (fun _ μ Q=>Q [] μ)):=PA.wk Vr fun σ H Q h=>by
 obtain ⟨ρ,θ,μ,Qd,s,h,f⟩:=h
 exact f [] [] H θ μ s.wok Grow.refl Reps.nil h
theorem pa_consD {e:Expr} {es:List Expr} {wa:WE} {ws:WA} (h1:PE X e (LE X.K wa)) (h2:PA X es (LA X.K ws)) (hs:starEach (e :: es) X.env=(false,eval e X.env) :: starEach es X.env) :
  PA X (e :: es) (LA X.K (fun ρ μ Q=>wa ρ μ fun d μ1=>ws ρ μ1 fun ds μ2=>Q (d :: ds) μ2)):=PA.wk (Zg h1 h2 hs) fun σ H Q h=>la_cons h
theorem pe_varD {i:Nat} {x:Str} {pos:Pos} (hN:X.N[i]? = some x) (hv:Vis X.env.scope x) (hd:(x == ("__debug__" : Str))=false) (hcd:(x == ("__classdict__" : Str))=false) :
  PE X (.Name x pos) (LE X.K (fun ρ μ Q=>match ρ[i]? with | some (some d)=>Q d μ | _=>False)):=PE.wk (pe_var hN hv hd hcd) fun σ H Q h=>by
 obtain ⟨ρ,θ,μ,Qd,s,h,f⟩:=h
 split at h
 ·rename_i d e
  obtain ⟨v,e1,r⟩:=s.val i d e
  exact ⟨v,e1,f.at s.wok r h⟩
 ·exact h.elim
theorem Vx {v:V} {d:D} (r:∀ H θ μ,Rp X.K H θ μ d v) {σ:L2.St} {H:Hp} {Q:VK} (h:LE X.K (fun _ μ Q=>Q d μ) σ H Q):tC v σ H Q:=by
 obtain ⟨ρ,θ,μ,Qd,s,h,f⟩:=h
 exact f.at s.wok (r H θ μ) h
theorem op_fdivB:OpR X (binaryOp .FloorDiv) (rI (fun _ j=>Xba j) fun i j=>.int (i / j)):=opI fun i j _ _ _ _ _ hc q=>by
 have h1:(0:Int) < j:=hc.1
 have h2:j < 2 ^ 500:=hc.2
 refine floordiv_int (by omega) ?_ (.inl (PyProof.noPylong_of_log2 ?_))
 ·rw [Int.fdiv_eq_ediv_of_nonneg i (by omega)]; exact q
 ·have h3:j.natAbs < 2 ^ 500:=by omega
  have h4:j.natAbs≠0:=by omega
  have:=(Nat.log2_lt h4).mpr h3
  omega
theorem Vb0 {prog:Program} {w:World} {A:Around} {E:Value->Shared->Prop} {s:Shared} {t b:Addr} {vs ws:List Value} {Q:Value->Shared->Prop} (ht:IsTup s.heap t vs.toArray) (hb:IsTup s.heap b ws.toArray) (hv:vs=[]) (h:Q (.ref b) s) :
  wpAny (model prog w) A (binaryOp .Add (.ref t) (.ref b)) Q E s:=by
 obtain ⟨⟨c1,d1,a1,s1⟩,g1,e1,n1,f1⟩:=id ht
 obtain ⟨⟨c2,d2,a2,s2⟩,g2,e2,n2,f2⟩:=id hb
 cases e1
 cases f1
 cases e2
 cases f2
 refine concat_meets ⟨_,g1,rfl⟩ ⟨_,g2,rfl⟩ noFill_tuple_add seq_tuple_add
  PySem.F.slot_tuple_add PySem.F.entry_tuple_add (PySem.F.args_tuple_add_2 _ _) (tuple_addW0 t b vs.toArray ws.toArray n1 n2 d1 d2 s1 s2 ?_) ⟨g1,g2,h⟩
 rw [hv]; rfl
theorem bin_ok (op:Operator):OpR X (binaryOp op) (low2 X.K (wBin op)):=by
 intro pins s σ H x y v u Q I rx ry h
 obtain ⟨d,e,θ,μ,Qd,wk,rd,re,hw,f⟩:=h
 unfold wBin at hw
 split at hw
 ·rename_i i j
  have ex:=Zb rd
  have ey:=Zb re
  split at hw
  ·exact op_add pins s σ H x y v u Q I rx ry ⟨i,j,ex,ey,f.at wk Yd hw⟩
  ·exact op_sub pins s σ H x y v u Q I rx ry ⟨i,j,ex,ey,f.at wk Yd hw⟩
  ·exact op_mul pins s σ H x y v u Q I rx ry ⟨i,j,ex,ey,hw.1,f.at wk Yd hw.2⟩
  ·exact op_fdivB pins s σ H x y v u Q I rx ry ⟨i,j,ex,ey,hw.1,f.at wk Yd hw.2⟩
  ·exact op_mod pins s σ H x y v u Q I rx ry ⟨i,j,ex,ey,hw.1,f.at wk Yd hw.2⟩
  ·exact op_pow pins s σ H x y v u Q I rx ry ⟨i,j,ex,ey,hw.1,f.at wk Yd hw.2⟩
  ·exact hw.elim
 ·rename_i a b
  obtain ⟨ex,hx⟩:=Vc rd
  obtain ⟨ey,hy⟩:=Vc re
  split at hw
  ·have hl:(a ++ b).length<=sizeLine:=by rw [List.length_append,<- Ys]; exact hw.1
   have hq:=f.at wk (Wr hl) hw.2
   refine Wa6 pins s σ H x y v u Q I rx ry ⟨_,_,ex,ey,?_,?_⟩
   ·show a.toArray.size + b.toArray.size<=_
    rw [<- Ys]; simpa using hw.1
   ·have e:(⟨a.toArray⟩ ++ ⟨b.toArray⟩:Str)=⟨(a ++ b).toArray⟩:=by
     show Str.mk (a.toArray ++ b.toArray)=_
     simp
    rw [e]; exact hq
  ·exact hw.elim
 ·rename_i a n
  obtain ⟨rfl,hx⟩:=Vc rd
  cases Zb re
  split at hw
  ·obtain ⟨⟨n2,n3,a1,a2⟩,hq⟩:=hw
   obtain ⟨t,rfl⟩:=rx
   obtain ⟨u',rfl⟩:=ry
   have hal:(⟨a.toArray⟩:Str).length=a.length:=by simp [Str.length]
   have hflat:∀ (m:Nat) (acc:Array Nat),((List.replicate m a.toArray).foldl (· ++ ·) acc).toList=acc.toList ++ (List.replicate m a).flatten:=by
    intro m
    induction m with
    | zero=>intro acc; simp
    | succ m ih=>intro acc; rw [List.replicate_succ,List.foldl_cons,ih]; simp [List.replicate_succ]
   have hlen:(List.replicate n.toNat a).flatten.length=n.toNat * a.length:=by simp
   have hle:n.toNat * a.length<=1000 * 1000:=Nat.mul_le_mul (by omega) a2
   have hln:(List.replicate n.toNat a).flatten.length<=sizeLine:=by rw [hlen,sizeLine_eq]; omega
   have e:(⟨(List.replicate n.toNat (⟨a.toArray⟩:Str).cps).foldl (· ++ ·) #[]⟩:Str)=⟨(List.replicate n.toNat a).flatten.toArray⟩:=by
    have:=hflat n.toNat #[]
    congr 1
    apply Array.toList_inj.mp
    simpa using this
   refine PySem.P.mul_str (by rw [decide_eq_false (by omega),decide_eq_false (by omega)]; rfl) (fun _ _=>?_) (fun _ _=>?_) ?_
   ·rw [hal]
    have:(1000:Int)<=(2 ^ 63 - 1) / n:=(Int.le_ediv_iff_mul_le (by omega)).mpr (by omega)
    omega
   ·rw [hal]
    have h3:a.length * n.toNat<=1000000:=by rw [Nat.mul_comm]; omega
    unfold Builtin.Str.tooLong
    exact decide_eq_false (Nat.not_lt.mpr (Nat.le_trans h3 (by rw [sizeLine_eq]; decide)))
   ·by_cases n0:n=0
    ·subst n0
     exact ⟨by decide,.str _,H,I.tok _,⟨_,rfl⟩,f.at wk (Wr hln) hq⟩
    by_cases n1:n=1
    ·subst n1
     have e1:(List.replicate (1:Int).toNat a).flatten=a:=by simp
     rw [e1] at hq hln
     exact ⟨.str _,H,I,⟨_,rfl⟩,f.at wk (Wr hln) hq⟩
    rw [if_neg (by omega),if_neg (by rw [hal]; simp only [Bool.or_eq_true,beq_iff_eq]; omega),e]
    exact ⟨by simpa [Str.length] using hln,.str _,H,I.tok _,⟨_,rfl⟩,f.at wk (Wr hln) hq⟩
  ·exact hw.elim
 ·rename_i a b
  obtain ⟨p,xs,ex,hx,_,r1⟩:=Wj rd
  obtain ⟨q,ys,ey,hy,_,r2⟩:=Wj re
  split at hw
  ·have l1:=r1.length
   have l2:=r2.length
   refine op_cat pins s σ H x y v u Q I rx ry ⟨p,q,xs,ys,ex,ey,hx,hy,by have h1:=hw.1; rw [l1,l2,Ys] at h1; exact h1,fun z hz=>?_⟩
   exact Z0 wk f (r1.append r2) hw.2 hz
  ·exact hw.elim
 ·rename_i a b
  obtain ⟨p,xs,ex,hx,nx,r1⟩:=Zf rd
  obtain ⟨q,ys,ey,hy,_,r2⟩:=Zf re
  split at hw
  ·obtain ⟨h2,h3⟩:=hw
   have l1:=r1.length
   have l2:=r2.length
   by_cases h1:a=[]
   ·subst h1
    rw [List.nil_append] at h3
    subst ex ey
    cases rx
    cases ry
    obtain ⟨its,q1,p1,_⟩:=I.tuple (SqT.of hx)
    obtain ⟨its2,q2,p2,_⟩:=I.tuple (SqT.of hy)
    have e1:its=[]:=List.length_eq_zero_iff.mp (by rw [<- q1.length,<- l1]; rfl)
    exact Vb0 p1 p2 e1 ⟨.ref q,H,I,rfl,f.at wk re h3⟩
   refine op_catT pins s σ H x y v u Q I rx ry ⟨p,q,xs,ys,ex,ey,.of hx,.of hy,?_,by rw [l1,l2,Ys] at h2; exact h2,fun z=>?_,fun z w hw'=>Vz wk f (r1.append r2) h3 hw'⟩
   ·intro z; rw [z] at l1; exact h1 (List.length_eq_zero_iff.mp l1)
   ·rw [z] at l2
    have e:b=[]:=List.length_eq_zero_iff.mp l2
    rw [e,List.append_nil] at h3
    rw [<- ex]
    exact f.at wk rd h3
  ·exact hw.elim
 ·exact hw.elim
end
end DW
end
section
namespace DW
open PySem
structure Ctx where
 N:List Str
 names:List (Str×NameKind)
 blts:List Str
 calm:Bool
 rs:Bool
noncomputable abbrev Ctx.in_ (c:Ctx) (N:List Str) (names:List (Str×NameKind)):Ctx:=⟨N,names,c.blts,c.calm,true⟩
noncomputable abbrev Ctx.of (N:List Str) (names:List (Str×NameKind)) (blts:List Str):Ctx:=⟨N,names,blts,true,true⟩
noncomputable def Ctx.vis (c:Ctx) (x:Str):Bool:=match c.names.lookup x with
 | some .local=>true
 | some .cell=>true
 | some .free=>true
 | _=>false
noncomputable def Ctx.loc (c:Ctx) (x:Str):Bool:=match c.names.lookup x with
 | some .local=>true
 | some .cell=>true
 | _=>false
noncomputable def Ctx.glb (c:Ctx) (x:Str):Bool:=match c.names.lookup x with
 | some .globalImplicit=>true
 | _=>false
noncomputable def Ctx.at_ (c:Ctx) (i:Nat) (x:Str):Bool:=match c.N[i]? with
 | some y=>decide (y=x)
 | none=>false
noncomputable def We (x:Str):Bool:=(x == ("__debug__" : Str)) || (x == ("__classdict__" : Str))
noncomputable def mC:Const->D->Bool
 | .none,.non=>true
 | .bool a,.bl b=>a == b
 | .int i,.int j=>i == j
 | .str s,.str x=>decide (s.cps.toList=x) && decide (x.length<=16777216)
 | _,_=>false
noncomputable def notStar:Expr->Bool
 | .Starred ..=>false
 | _=>true
noncomputable def Vm:Expr->Bool
 | .Set ..=>false
 | _=>true
noncomputable def Yj:Expr->Bool
 | .ListComp ..=>false
 | .SetComp ..=>false
 | .DictComp ..=>false
 | _=>true
noncomputable def Xi:Expr->Bool
 | .Name ..=>true
 | .Constant ..=>true
 | .BinOp ..=>true
 | .UnaryOp ..=>true
 | .Call ..=>true
 | .Subscript ..=>true
 | .Attribute ..=>true
 | .Tuple ..=>true
 | _=>false
noncomputable def Vbw:Expr->Bool
 | .Name ..=>true
 | .Subscript ..=>true
 | .Attribute ..=>true
 | .Constant ..=>true
 | .Call (.Name ..) (_ :: _) _ _=>true
 | _=>false
theorem Zaa {f:Expr} {as:List Expr} {ks:List Keyword} {p:Pos} (h:Vbw (.Call f as ks p)=true):∃ x q a r,f = .Name x q/\as=a :: r:=by
 cases f with
 | Name x q=>cases as with
  | nil=>exact (Bool.false_ne_true h).elim
  | cons a r=>exact ⟨x,q,a,r,rfl,rfl⟩
 | _=>exact (Bool.false_ne_true h).elim
noncomputable def bname (x:String):Str:=if x = "mlist" then "list" else if x = "msorted" then "sorted" else if x = "isorted" then "sorted" else if x = "dsorted" then "sorted" else if x = "min3" then "min" else if x = "tsorted" then "sorted" else if x = "mtsorted" then "sorted" else Str.ofString x
noncomputable def Wd (c:Ctx) (x:Str):Bool:=c.glb x && c.blts.contains x
noncomputable def Wk (c:Ctx):List Nat->Option (List Str)
 | []=>some []
 | i :: is=>match c.N[i]?,Wk c is with
  | some x,some r=>some (x :: r)
  | _,_=>none
noncomputable def Vas (c:Ctx) (scope:Scope) (Nc:List Str) (cap:List Str):Bool :=
 (scope.kind == .function) && scope.names.all (fun y=>y.2 != .cell || (scope.names.lookup y.1 == some .cell)) && scope.names.all (fun y=>y.2 != .local || (scope.names.lookup y.1 == some .local)) &&
 decide (Nc.Nodup) && cap.all (fun y=>scope.names.lookup y == some .free) && scope.names.all (fun y=>y.2 != .free || (c.names.lookup y.1 == some .cell || c.names.lookup y.1 == some .free))
noncomputable def namesOf:List Expr->Option (List Str)
 | []=>some []
 | .Name x _ :: as=>(namesOf as).map (x :: ·)
 | _ :: _=>none
noncomputable def Yab (tt:Bool) (a:Expr):Option (List Str):=match tt with
 | false=>match a with | .Name x _=>some [x] | _=>none
 | true=>match a with | .Tuple ts _ _=>namesOf ts | _=>none
noncomputable def Xk (c:Ctx):List Nat->List Expr->Bool
 | [],[]=>true
 | i :: is,a :: as=>(match a with | .Name x _=>c.at_ i x && c.loc x | _=>false) && Xk c is as
 | _,_=>false
noncomputable def mTg (c:Ctx) (is:List Nat) (tt:Bool) (a:Expr):Bool :=
 match tt with
 | false=>Xk c is [a]
 | true=>match a with | .Tuple ts _ _=>Xk c is ts | _=>false
noncomputable def Vae (tt:Bool):It->Bool
 | _=>true
noncomputable def mNs (c:Ctx):List String->List Expr->Bool
 | [],[]=>true
 | t :: ts,a :: as=>(match a with | .Name z _=>z == Str.ofString t && c.glb z && !We z | _=>false) && mNs c ts as
 | _,_=>false
noncomputable def mCl (c:Ctx) (tt:Bool) (ts:List String) (a:Expr):Bool:=match tt with
 | false=>mNs c ts [a]
 | true=>match a with | .Tuple es _ _=>mNs c ts es && decide (es.length<=16777216) | _=>false
noncomputable def opt {α:Type} (o:Option α) (f:α->Bool):Bool:=match o with
 | some x=>f x
 | none=>false
theorem Wa {α:Type} {o:Option α} {f:α->Bool} (h:opt o f=true):∃ x,o=some x/\f x=true:=by
 cases o with
 | none=>exact (Bool.false_ne_true h).elim
 | some x=>exact ⟨x,rfl,h⟩
theorem Za {α:Type} {x:α} {P:Prop} (h:none=some x):P:=(Option.some_ne_none x h.symm).elim
noncomputable def Vy:Expr->Option Str
 | .Name x _=>some x
 | _=>none
theorem Xn {a:Expr} {t:Str} (h:Vy a=some t):∃ p,a = .Name t p:=by
 cases a with
 | Name x p=>cases Option.some.inj (show some x=some t from h); exact ⟨p,rfl⟩
 | _=>exact Za h
noncomputable def Vba:Expr->Option Const
 | .Constant k _ _=>some k
 | _=>none
theorem Xa4 {a:Expr} {t:Const} (h:Vba a=some t):∃ j p,a = .Constant t j p:=by
 cases a with
 | Constant k j p=>cases Option.some.inj (show some k=some t from h); exact ⟨j,p,rfl⟩
 | _=>exact Za h
noncomputable def vBin:Expr->Option (Expr×Operator×Expr)
 | .BinOp l o r _=>some (l,o,r)
 | _=>none
theorem Yaw {a:Expr} {t:(Expr×Operator×Expr)} (h:vBin a=some t):∃ p,a = .BinOp t.1 t.2.1 t.2.2 p:=by
 cases a with
 | BinOp l o r p=>cases Option.some.inj (show some (l,o,r)=some t from h); exact ⟨p,rfl⟩
 | _=>exact Za h
noncomputable def vSub:Expr->Option (Expr×Expr)
 | .Subscript x y _=>some (x,y)
 | _=>none
theorem Vaa {a:Expr} {t:(Expr×Expr)} (h:vSub a=some t):∃ p,a = .Subscript t.1 t.2 p:=by
 cases a with
 | Subscript x y p=>cases Option.some.inj (show some (x,y)=some t from h); exact ⟨p,rfl⟩
 | _=>exact Za h
noncomputable def vTup:Expr->Option (List Expr)
 | .Tuple x _ _=>some x
 | _=>none
theorem Wav {a:Expr} {t:(List Expr)} (h:vTup a=some t):∃ k p,a = .Tuple t k p:=by
 cases a with
 | Tuple x k p=>cases Option.some.inj (show some x=some t from h); exact ⟨k,p,rfl⟩
 | _=>exact Za h
noncomputable def vLst:Expr->Option (List Expr)
 | .List x _=>some x
 | _=>none
theorem Xbz {a:Expr} {t:(List Expr)} (h:vLst a=some t):∃ p,a = .List t p:=by
 cases a with
 | List x p=>cases Option.some.inj (show some x=some t from h); exact ⟨p,rfl⟩
 | _=>exact Za h
noncomputable def vNeg:Expr->Option Expr
 | .UnaryOp .USub l _=>some l
 | _=>none
theorem Ybz {a:Expr} {t:Expr} (h:vNeg a=some t):∃ p,a = .UnaryOp .USub t p:=by
 cases a with
 | UnaryOp o l p =>
  cases o with
  | USub=>cases Option.some.inj (show some l=some t from h); exact ⟨p,rfl⟩
  | _=>exact Za h
 | _=>exact Za h
noncomputable def vNot:Expr->Option Expr
 | .UnaryOp .Not l _=>some l
 | _=>none
theorem Zbz {a:Expr} {t:Expr} (h:vNot a=some t):∃ p,a = .UnaryOp .Not t p:=by
 cases a with
 | UnaryOp o l p =>
  cases o with
  | Not=>cases Option.some.inj (show some l=some t from h); exact ⟨p,rfl⟩
  | _=>exact Za h
 | _=>exact Za h
noncomputable def vCmp:Expr->Option (Expr×CmpOp×Expr)
 | .Compare l [o] [r] _=>some (l,o,r)
 | _=>none
theorem Zaw {a:Expr} {t:(Expr×CmpOp×Expr)} (h:vCmp a=some t):∃ p,a = .Compare t.1 [t.2.1] [t.2.2] p:=by
 cases a with
 | Compare l os rs p =>
  match os,rs,h with
  | [o],[r],h=>cases Option.some.inj (show some (l,o,r)=some t from h); exact ⟨p,rfl⟩
  | [],_,h=>exact Za h
  | _ :: _ :: _,_,h=>exact Za h
  | [_],[],h=>exact Za h
  | [_],_ :: _ :: _,h=>exact Za h
 | _=>exact Za h
noncomputable def vCmp2:Expr->Option (Expr×CmpOp×CmpOp×Expr×Expr)
 | .Compare l [o,q] [m,r] _=>some (l,o,q,m,r)
 | _=>none
theorem Zbb {a:Expr} {t:(Expr×CmpOp×CmpOp×Expr×Expr)} (h:vCmp2 a=some t):∃ p,a = .Compare t.1 [t.2.1,t.2.2.1] [t.2.2.2.1,t.2.2.2.2] p:=by
 cases a with
 | Compare l os rs p =>
  match os,rs,h with
  | [o,q],[m,r],h=>cases Option.some.inj (show some (l,o,q,m,r)=some t from h); exact ⟨p,rfl⟩
  | [],_,h=>exact Za h
  | [_],_,h=>exact Za h
  | _ :: _ :: _ :: _,_,h=>exact Za h
  | [_,_],[],h=>exact Za h
  | [_,_],[_],h=>exact Za h
  | [_,_],_ :: _ :: _ :: _,h=>exact Za h
 | _=>exact Za h
noncomputable def vAnd:Expr->Option (Expr×Expr)
 | .BoolOp .And (v :: w :: rest) p=>some (v,match rest with | []=>w | _ :: _=>.BoolOp .And (w :: rest) p)
 | _=>none
theorem Wbz {a:Expr} {t:Expr×Expr} (h:vAnd a=some t):(∃ p,a = .BoolOp .And [t.1,t.2] p)∨∃ w z rest p,a = .BoolOp .And (t.1 :: w :: z :: rest) p/\t.2 = .BoolOp .And (w :: z :: rest) p:=by
 cases a with
 | BoolOp o vs p =>
  cases o with
  | And =>
   match vs,h with
   | [v,w],h=>cases Option.some.inj (show some (v,w)=some t from h); exact .inl ⟨p,rfl⟩
   | v :: w :: z :: rest,h=>cases Option.some.inj (show some (v,.BoolOp .And (w :: z :: rest) p)=some t from h); exact .inr ⟨w,z,rest,p,rfl,rfl⟩
   | [],h=>exact Za h
   | [_],h=>exact Za h
  | _=>exact Za h
 | _=>exact Za h
noncomputable def vOr:Expr->Option (Expr×Expr)
 | .BoolOp .Or (v :: w :: rest) p=>some (v,match rest with | []=>w | _ :: _=>.BoolOp .Or (w :: rest) p)
 | _=>none
theorem vOr_inv {a:Expr} {t:Expr×Expr} (h:vOr a=some t):(∃ p,a = .BoolOp .Or [t.1,t.2] p)∨∃ w z rest p,a = .BoolOp .Or (t.1 :: w :: z :: rest) p/\t.2 = .BoolOp .Or (w :: z :: rest) p:=by
 cases a with
 | BoolOp o vs p =>
  cases o with
  | Or =>
   match vs,h with
   | [v,w],h=>cases Option.some.inj (show some (v,w)=some t from h); exact .inl ⟨p,rfl⟩
   | v :: w :: z :: rest,h=>cases Option.some.inj (show some (v,.BoolOp .Or (w :: z :: rest) p)=some t from h); exact .inr ⟨w,z,rest,p,rfl,rfl⟩
   | [],h=>exact Za h
   | [_],h=>exact Za h
  | _=>exact Za h
 | _=>exact Za h
noncomputable def Wl:Expr->Option (Str×List Expr)
 | .Call (.Name y _) as [] _=>some (y,as)
 | _=>none
theorem Xe {a:Expr} {t:(Str×List Expr)} (h:Wl a=some t):∃ p q,a = .Call (.Name t.1 p) t.2 [] q:=by
 cases a with
 | Call f as ks q =>
  cases f with
  | Name y p =>
   cases ks with
   | nil=>cases Option.some.inj (show some (y,as)=some t from h); exact ⟨p,q,rfl⟩
   | cons _ _=>exact Za h
  | _=>exact Za h
 | _=>exact Za h
noncomputable def vMeth:Expr->Option (Expr×Str×List Expr×Bool)
 | .Call (.Attribute o m p) as [] q=>some (o,m,as,p.endLine == q.line)
 | _=>none
theorem Wba {a:Expr} {t:(Expr×Str×List Expr×Bool)} (h:vMeth a=some t):∃ p q,a = .Call (.Attribute t.1 t.2.1 p) t.2.2.1 [] q/\t.2.2.2=(p.endLine == q.line):=by
 cases a with
 | Call f as ks q =>
  cases f with
  | Attribute o m p =>
   cases ks with
   | nil=>cases Option.some.inj (show some (o,m,as,p.endLine == q.line)=some t from h); exact ⟨p,q,rfl,rfl⟩
   | cons _ _=>exact Za h
  | _=>exact Za h
 | _=>exact Za h
noncomputable def vSlc:Expr->Option (Expr×Option Expr×Option Expr)
 | .Subscript x (.Slice lo hi none _) _=>some (x,lo,hi)
 | _=>none
theorem Vby {a:Expr} {t:(Expr×Option Expr×Option Expr)} (h:vSlc a=some t):∃ p q,a = .Subscript t.1 (.Slice t.2.1 t.2.2 none p) q:=by
 cases a with
 | Subscript x y q =>
  cases y with
  | Slice lo hi st p =>
   cases st with
   | none=>cases Option.some.inj (show some (x,lo,hi)=some t from h); exact ⟨p,q,rfl⟩
   | some _=>exact Za h
  | _=>exact Za h
 | _=>exact Za h
noncomputable def vTwo:List Expr->Option (Expr×Expr)
 | [x,y]=>some (x,y)
 | _=>none
theorem Xav {a:List Expr} {t:Expr×Expr} (h:vTwo a=some t):a=[t.1,t.2]:=by
 match a,h with
 | [x,y],h=>cases Option.some.inj (show some (x,y)=some t from h); rfl
 | [],h=>exact Za h
 | [_],h=>exact Za h
 | _ :: _ :: _ :: _,h=>exact Za h
noncomputable def vOne:List Expr->Option Expr
 | [x]=>some x
 | _=>none
theorem Vav {a:List Expr} {t:Expr} (h:vOne a=some t):a=[t]:=by
 match a,h with
 | [x],h=>cases Option.some.inj (show some x=some t from h); rfl
 | [],h=>exact Za h
 | _ :: _ :: _,h=>exact Za h
noncomputable def vComp:Expr->Option (Expr×Expr×Expr×List Expr×Scope)
 | .ListComp e [g] s _=>if g.is_async=0 then some (e,g.target,g.iter,g.ifs,s) else none
 | _=>none
theorem Xaf {a:Expr} {t:Expr×Expr×Expr×List Expr×Scope} (h:vComp a=some t):∃ p,a = .ListComp t.1 [⟨t.2.1,t.2.2.1,t.2.2.2.1,0⟩] t.2.2.2.2 p:=by
 cases a with
 | ListComp e gs s p =>
  match gs,h with
  | [⟨tg,it,ifs,k⟩],h =>
   have h:(if k=0 then some (e,tg,it,ifs,s) else none)=some t:=h
   by_cases q:k=0
   ·rw [if_pos q] at h; cases Option.some.inj h; exact ⟨p,by rw [q]⟩
   ·rw [if_neg q] at h; exact Za h
  | [],h=>exact Za h
  | _ :: _ :: _,h=>exact Za h
 | _=>exact Za h
noncomputable def Yap:It->Bool
 | .rng as=>decide (Xv as<=2)
 | _=>false
mutual
noncomputable def mE (c:Ctx):E->Expr->Bool
 | .var i,a=>opt (Vy a) fun x=>c.at_ i x && c.vis x && !We x
 | .cst d,a=>opt (Vba a) fun k=>mC k d
 | .bin op l r,a=>opt (vBin a) fun t=>op == t.2.1 && mE c l t.1 && mE c r t.2.2
 | .neg l,a=>opt (vNeg a) fun t=>mE c l t
 | .not l,a=>opt (vNot a) fun t=>mE c l t
 | .cmp op l r,a=>opt (vCmp a) fun t=>op == t.2.1 && mE c l t.1 && mE c r t.2.2 && Vm t.2.2
 | .chain p q l m r,a=>opt (vCmp2 a) fun t=>p == t.2.1 && q == t.2.2.1 && mE c l t.1 && mE c m t.2.2.2.1 && mE c r t.2.2.2.2 && Vm t.2.2.2.2 && Vm t.2.2.2.1
 | .and x y,a=>opt (vAnd a) fun t=>mE c x t.1 && mE c y t.2
 | .or x y,a=>opt (vOr a) fun t=>mE c x t.1 && mE c y t.2
 | .call x _ as,a=>opt (Wl a) fun t=>x == t.1 && c.glb x && !We x && mEs c as t.2
 | .blt x as,a=>opt (Wl a) fun t=>c.calm && knownB.contains x && bname x == t.1 && Wd c t.1 && mEs c as t.2 && !t.2.isEmpty
 | .isin l t,a=>opt (Wl a) fun q=>opt (vTwo q.2) fun w=>opt (Vy w.2) fun z=>(q.1 == Str.ofString "isinstance") && Wd c q.1 && ["int","bool","str","tuple","list","dict"].contains t && (z == Str.ofString t) && Wd c z && mE c l w.1 && notStar w.1
 | .isin l t (some _),a=>opt (vCmp a) fun w=>opt (Vy w.2.2) fun z=>(w.2.1 == .In) && (z == Str.ofString t) && c.glb z && !We z && mE c l w.1
 | .lset l s,a=>opt (Wl a) fun q=>opt (vOne q.2) fun r=>opt (Wl r) fun t=>opt (vOne t.2) fun x=>c.calm && (q.1 == Str.ofString (if s then "sorted" else "len")) && Wd c q.1 && (t.1 == Str.ofString "set") && Wd c t.1 && mE c l x && notStar x
 | .meth m o as,a=>opt (vMeth a) fun t=>(if t.2.2.1.isEmpty then ["reverse"].contains m else ["append"].contains m) && t.2.1 == Str.ofString m && Vbw t.1 && t.2.2.2 && mE c o t.1 && mEs c as t.2.2.1 && decide (t.2.2.1.length < 30)
 | .idx x y,a=>opt (vSub a) fun t=>mE c x t.1 && mE c y t.2 && Xi t.2
 | .slc _ x lo hi,a=>opt (vSlc a) fun t=>mE c x t.1 && mO c lo t.2.1 && mO c hi t.2.2
 | .tup as,a=>opt (vTup a) fun es=>mEs c as es && decide (es.length<=16777216)
 | .lst _ as,a=>opt (vLst a) fun es=>mEs c as es && decide (es.length<=16777216)
 | .comp _ n tt cap elt it cond,a=>opt (vComp a) fun t=>(c.calm || (Yap it && !tt)) && opt (Yab tt t.2.1) fun xs=>opt (Wk c cap) fun cs=>n == xs.length && Vas c t.2.2.2.2 (xs ++ cs) cs && Vae tt it && mI c it t.2.2.1 && mTg (c.in_ (xs ++ cs) t.2.2.2.2.names) (List.range n) tt t.2.1 && mE (c.in_ (xs ++ cs) t.2.2.2.2.names) elt t.1 && mEs (c.in_ (xs ++ cs) t.2.2.2.2.names) cond t.2.2.2.1 && decide (t.2.2.2.1.length<=1)
 | .cat _ l r,a=>opt (vBin a) fun t=>t.2.1 == .Add && mE c l t.1 && mE c r t.2.2
 | .isx l tt ts _,a=>opt (Wl a) fun q=>opt (vTwo q.2) fun w=>(q.1 == Str.ofString "isinstance") && Wd c q.1 && mE c l w.1 && notStar w.1 && mCl c tt ts w.2
noncomputable def mEs (c:Ctx):Es->List Expr->Bool
 | .nil,as=>as.isEmpty
 | .cons e es,as=>match as with | []=>false | a :: as=>mE c e a && notStar a && mEs c es as
noncomputable def mO (c:Ctx):Es->Option Expr->Bool
 | .nil,a=>a.isNone
 | .cons e es,a=>match a,es with | some a,.nil=>mE c e a | _,_=>false
noncomputable def mI (c:Ctx):It->Expr->Bool
 | .seq e,a=>mE c e a && Vm a
 | .rng as,a=>opt (Wl a) fun t=>(t.1 == Str.ofString "range") && Wd c t.1 && mEs c as t.2 && (t.2.length == 1)
end
noncomputable def Wz:Expr->Bool
 | .Tuple ..=>false
 | .List ..=>false
 | _=>true
noncomputable def isLocal (c:Ctx) (x:Str):Bool:=c.names.lookup x == some .local
noncomputable def Yar:E->Bool
 | .comp ..=>true
 | _=>false
noncomputable def mXC (c:Ctx):XC->Expr->Bool
 | .fn x sp as,a=>opt (Wl a) fun t=>x == t.1 && c.glb x && !We x && mEs c as t.2
noncomputable def uAsg:Stmt->Option (Expr×Expr)
 | .Assign [t] v _=>some (t,v)
 | _=>none
theorem Zab {a:Stmt} {t:Expr×Expr} (h:uAsg a=some t):∃ p,a = .Assign [t.1] t.2 p:=by
 cases a with
 | Assign ts v p =>
  match ts,h with
  | [x],h=>cases Option.some.inj (show some (x,v)=some t from h); exact ⟨p,rfl⟩
  | [],h=>exact Za h
  | _ :: _ :: _,h=>exact Za h
 | _=>exact Za h
noncomputable def uAug:Stmt->Option (Expr×Operator×Expr)
 | .AugAssign t o v _=>some (t,o,v)
 | _=>none
theorem Wb0 {a:Stmt} {t:Expr×Operator×Expr} (h:uAug a=some t):∃ p,a = .AugAssign t.1 t.2.1 t.2.2 p:=by
 cases a with
 | AugAssign x o v p=>cases Option.some.inj (show some (x,o,v)=some t from h); exact ⟨p,rfl⟩
 | _=>exact Za h
noncomputable def uExp:Stmt->Option Expr
 | .Expr v _=>some v
 | _=>none
theorem Xb0 {a:Stmt} {t:Expr} (h:uExp a=some t):∃ p,a = .Expr t p:=by
 cases a with
 | Expr v p=>cases Option.some.inj (show some v=some t from h); exact ⟨p,rfl⟩
 | _=>exact Za h
noncomputable def uRet:Stmt->Option (Option Expr)
 | .Return v _=>some v
 | _=>none
theorem Xaw {a:Stmt} {t:Option Expr} (h:uRet a=some t):∃ p,a = .Return t p:=by
 cases a with
 | Return v p=>cases Option.some.inj (show some v=some t from h); exact ⟨p,rfl⟩
 | _=>exact Za h
noncomputable def uIf:Stmt->Option (Expr×List Stmt×List Stmt)
 | .If t x y _=>some (t,x,y)
 | _=>none
theorem uIf_inv {a:Stmt} {t:Expr×List Stmt×List Stmt} (h:uIf a=some t):∃ p,a = .If t.1 t.2.1 t.2.2 p:=by
 cases a with
 | If u x y p=>cases Option.some.inj (show some (u,x,y)=some t from h); exact ⟨p,rfl⟩
 | _=>exact Za h
noncomputable def uFor:Stmt->Option (Expr×Expr×List Stmt)
 | .For t i b [] _=>some (t,i,b)
 | _=>none
theorem Yb0 {a:Stmt} {t:Expr×Expr×List Stmt} (h:uFor a=some t):∃ p,a = .For t.1 t.2.1 t.2.2 [] p:=by
 cases a with
 | For u i b e p =>
  cases e with
  | nil=>cases Option.some.inj (show some (u,i,b)=some t from h); exact ⟨p,rfl⟩
  | cons _ _=>exact Za h
 | _=>exact Za h
noncomputable def uRais:Stmt->Option Expr
 | .Raise (some e) none _=>some e
 | _=>none
theorem Xbb {a:Stmt} {t:Expr} (h:uRais a=some t):∃ p,a = .Raise (some t) none p:=by
 cases a with
 | Raise e o p =>
  match e,o,h with
  | some e,none,h=>cases Option.some.inj (show some e=some t from h); exact ⟨p,rfl⟩
  | none,_,h=>exact Za h
  | some _,some _,h=>exact Za h
 | _=>exact Za h
noncomputable def uHan:ExceptHandler->Option (Expr×Str×Stmt×List Stmt)
 | .ExceptHandler (some y) (some n) (s :: r) _=>some (y,n,s,r)
 | _=>none
theorem Zb0 {a:ExceptHandler} {t:Expr×Str×Stmt×List Stmt} (h:uHan a=some t):∃ p,a = .ExceptHandler (some t.1) (some t.2.1) (t.2.2.1 :: t.2.2.2) p:=by
 cases a with
 | ExceptHandler y n b p =>
  match y,n,b,h with
  | some y,some n,s :: r,h=>cases Option.some.inj (show some (y,n,s,r)=some t from h); exact ⟨p,rfl⟩
  | none,_,_,h=>exact Za h
  | some _,none,_,h=>exact Za h
  | some _,some _,[],h=>exact Za h
noncomputable def uTry:Stmt->Option (List Stmt×ExceptHandler)
 | .Try b [x] [] [] _=>some (b,x)
 | _=>none
theorem Vbz {a:Stmt} {t:List Stmt×ExceptHandler} (h:uTry a=some t):∃ p,a = .Try t.1 [t.2] [] [] p:=by
 cases a with
 | Try b xs o f p =>
  match xs,o,f,h with
  | [x],[],[],h=>cases Option.some.inj (show some (b,x)=some t from h); exact ⟨p,rfl⟩
  | [],_,_,h=>exact Za h
  | _ :: _ :: _,_,_,h=>exact Za h
  | [_],_ :: _,_,h=>exact Za h
  | [_],[],_ :: _,h=>exact Za h
 | _=>exact Za h
mutual
noncomputable def mS (c:Ctx):S->Stmt->Bool
 | .set i e,a=>opt (uAsg a) fun t=>opt (Vy t.1) fun x=>c.at_ i x && c.loc x && mE c e t.2 && (Yj t.2 || Yar e)
 | .setT is e,a=>opt (uAsg a) fun t=>opt (vTup t.1) fun ts=>c.calm && Xk c is ts && mE c e t.2 && Yj t.2 && Wz t.2
 | .augIx op o i e,a=>opt (uAug a) fun t=>opt (vSub t.1) fun u=>op == t.2.1 && (op == .Add || op == .Sub) && mE c o u.1 && mE c i u.2 && Xi u.2 && mE c e t.2.2
 | .setIx o i e,a=>opt (uAsg a) fun t=>opt (vSub t.1) fun u=>mE c o u.1 && mE c i u.2 && Xi u.2 && mE c e t.2 && Yj t.2
 | .exp e,a=>opt (uExp a) fun v=>mE c e v && Yj v
 | .ret e,a=>opt (uRet a) fun o=>opt o fun v=>mE c e v
 | .ite t x y,a=>opt (uIf a) fun u=>mE c t u.1 && mSs c x u.2.1 && mSs c y u.2.2
 | .for_ is tt it b,a=>opt (uFor a) fun u=>c.calm && mTg c is tt u.1 && mI c it u.2.1 && mSs c b u.2.2 && Vm u.2.1 && Vae tt it
 | .retX k,a=>opt (uRet a) fun o=>opt o fun v=>mXC c k v
 | .rais cn as,a=>opt (uRais a) fun v=>opt (Wl v) fun t=>c.rs && c.calm && t.1 == Str.ofString cn && c.glb t.1 && !We t.1 && mEs c as t.2
 | .tryx P tab i b hs,a=>opt (uTry a) fun t=>opt (uHan t.2) fun u=>opt (Vy u.1) fun y=>c.calm && c.at_ i u.2.1 && c.loc u.2.1 && y == Str.ofString P && c.glb y && !We y && mSs { c with rs:=false } b t.1 && mSs { c with rs:=false,calm:=false } hs (u.2.2.1 :: u.2.2.2)
 | .nev,_=>true
noncomputable def mSs (c:Ctx):Ss->List Stmt->Bool
 | .nil,as=>as.isEmpty
 | .cons s r,as=>match as with | []=>false | a :: as=>mS c s a && mSs c r as
end
inductive Rf where
 | fn (x:Str) | mth (c m:String) | mk (c:String) | fld (c f:String)
 | din (x:Str) (ks:List (List Nat)) | dsp (x:Str) (ks:List (List Nat)) (sp:DSpX)
 | lam
 | fnM (x:Str) | rsi (c:String) (ks:List String) | efl (f:String) (tab:List String)
 | fnX (x:Str) (sp:DSpX) | mthX (c m:String) (sp:DSpX) | mkX (c:String) (sp:DSpX) | rse (c:String) | hdl (P:String) (tab:List String) | isx (tt:Bool) (ts:List String) (tab:List (String×Bool))
noncomputable def Rf.still:Rf->Bool
 | .fld _ _=>true
 | .isx _ _ _=>true
 | .efl _ _=>true
 | _=>false
noncomputable def hRf (P:Rf->DSp->Prop):Rf->DSp->Prop
 | .fn x,sp=>P (.fnM x) sp
 | r,sp=>r.still=true/\P r sp
noncomputable def spN:DSp:=fun _ _ _=>False
mutual
noncomputable def okE (P:Rf->DSp->Prop) (G:Str->D->Prop):E->Prop
 | .bin _ a b=>okE P G a/\okE P G b
 | .neg a=>okE P G a
 | .not a=>okE P G a
 | .cmp _ a b=>okE P G a/\okE P G b
 | .chain _ _ a b c=>okE P G a/\okE P G b/\okE P G c
 | .and a b=>okE P G a/\okE P G b
 | .or a b=>okE P G a/\okE P G b
 | .call x sp as=>P (.fn x) sp/\okEs P G as
 | .blt _ as=>okEs P G as
 | .isin a _=>okE P G a
 | .isin a t (some ks)=>P (.din (Str.ofString t) ks) spN/\okE P G a
 | .lset a _=>okE P G a
 | .meth _ o as=>okE P G o/\okEs P G as
 | .idx a b=>okE P G a/\okE P G b
 | .slc _ a lo hi=>okE P G a/\okEs P G lo/\okEs P G hi
 | .tup as=>okEs P G as
 | .lst _ as=>okEs P G as
 | .comp _ _ _ _ elt it cond=>okE P G elt/\okI P G it/\okEs P G cond
 | .cat _ a b=>okE P G a/\okE P G b
 | .isx a tt ts tab=>P (.isx tt ts tab) spN/\okE P G a
 | _=>True
noncomputable def okEs (P:Rf->DSp->Prop) (G:Str->D->Prop):Es->Prop
 | .nil=>True
 | .cons e es=>okE P G e/\okEs P G es
noncomputable def okI (P:Rf->DSp->Prop) (G:Str->D->Prop):It->Prop
 | .seq e=>okE P G e
 | .rng as=>okEs P G as
end
noncomputable def okXC (P:Rf->DSp->Prop) (G:Str->D->Prop):XC->Prop
 | .fn x sp as=>P (.fnX x sp) spN/\okEs P G as
mutual
noncomputable def okS (P:Rf->DSp->Prop) (G:Str->D->Prop):S->Prop
 | .set _ e=>okE P G e
 | .setT _ e=>okE P G e
 | .augIx _ o i e=>okE P G o/\okE P G i/\okE P G e
 | .setIx o i e=>okE P G o/\okE P G i/\okE P G e
 | .exp e=>okE P G e
 | .ret e=>okE P G e
 | .ite c a b=>okE P G c/\okSs P G a/\okSs P G b
 | .for_ _ _ it b=>okI P G it/\okSs P G b
 | .retX k=>okXC P G k
 | .rais c as=>P (.rse c) spN/\okEs P G as
 | .tryx Pn tab _ b h=>P (.hdl Pn tab) spN/\okSs P G b/\okSs (hRf P) G h
 | _=>True
noncomputable def okSs (P:Rf->DSp->Prop) (G:Str->D->Prop):Ss->Prop
 | .nil=>True
 | .cons s r=>okS P G s/\okSs P G r
end
end DW
end
section
namespace DW
open PySem
section
variable {P P':Rf->DSp->Prop} {G G':Str->D->Prop} (hp:∀ x sp,P x sp->P' x sp) (hg:∀ x d,G x d->G' x d)
include hp hg
mutual
theorem okE.mono:∀ e:E,okE P G e->okE P' G' e
 | .var _,h=>trivial
 | .cst _,h=>trivial
 | .bin _ a b,h=>⟨okE.mono a h.1,okE.mono b h.2⟩
 | .neg a,h=>okE.mono a h
 | .not a,h=>okE.mono a h
 | .cmp _ a b,h=>⟨okE.mono a h.1,okE.mono b h.2⟩
 | .chain _ _ a b c,h=>⟨okE.mono a h.1,okE.mono b h.2.1,okE.mono c h.2.2⟩
 | .and a b,h=>⟨okE.mono a h.1,okE.mono b h.2⟩
 | .or a b,h=>⟨okE.mono a h.1,okE.mono b h.2⟩
 | .call x sp as,h=>⟨hp (.fn x) sp h.1,okEs.mono as h.2⟩
 | .blt _ as,h=>okEs.mono as h
 | .isin a _,h=>okE.mono a h
 | .isin a _ (some _),h=>⟨hp _ _ h.1,okE.mono a h.2⟩
 | .lset a _,h=>okE.mono a h
 | .meth _ o as,h=>⟨okE.mono o h.1,okEs.mono as h.2⟩
 | .idx a b,h=>⟨okE.mono a h.1,okE.mono b h.2⟩
 | .slc _ a lo hi,h=>⟨okE.mono a h.1,okEs.mono lo h.2.1,okEs.mono hi h.2.2⟩
 | .tup as,h=>okEs.mono as h
 | .lst _ as,h=>okEs.mono as h
 | .comp _ _ _ _ elt it cond,h=>⟨okE.mono elt h.1,okI.mono it h.2.1,okEs.mono cond h.2.2⟩
 | .cat _ a b,h=>⟨okE.mono a h.1,okE.mono b h.2⟩
 | .isx a _ _ _,h=>⟨hp _ _ h.1,okE.mono a h.2⟩
theorem okEs.mono:∀ e:Es,okEs P G e->okEs P' G' e
 | .nil,_=>trivial
 | .cons e es,h=>⟨okE.mono e h.1,okEs.mono es h.2⟩
theorem okI.mono:∀ e:It,okI P G e->okI P' G' e
 | .seq e,h=>okE.mono e h
 | .rng as,h=>okEs.mono as h
end
theorem okXC.mono:∀ k:XC,okXC P G k->okXC P' G' k
 | .fn x sp as,h=>⟨hp _ _ h.1,okEs.mono hp hg as h.2⟩
end
theorem hRf_mono {P P':Rf->DSp->Prop} (hp:∀ x sp,P x sp->P' x sp) {x:Rf} {sp:DSp} (h:hRf P x sp):hRf P' x sp:=by
 cases x <;> first | exact hp _ _ h | exact ⟨h.1,hp _ _ h.2⟩
mutual
theorem okS.mono:∀ (s:S) {P P':Rf->DSp->Prop} {G G':Str->D->Prop} (hp:∀ x sp,P x sp->P' x sp) (hg:∀ x d,G x d->G' x d),okS P G s->okS P' G' s
 | .set _ e,_,_,_,_,hp,hg,h=>okE.mono hp hg e h
 | .setT _ e,_,_,_,_,hp,hg,h=>okE.mono hp hg e h
 | .augIx _ o i e,_,_,_,_,hp,hg,h=>⟨okE.mono hp hg o h.1,okE.mono hp hg i h.2.1,okE.mono hp hg e h.2.2⟩
 | .setIx o i e,_,_,_,_,hp,hg,h=>⟨okE.mono hp hg o h.1,okE.mono hp hg i h.2.1,okE.mono hp hg e h.2.2⟩
 | .exp e,_,_,_,_,hp,hg,h=>okE.mono hp hg e h
 | .ret e,_,_,_,_,hp,hg,h=>okE.mono hp hg e h
 | .ite c a b,_,_,_,_,hp,hg,h=>⟨okE.mono hp hg c h.1,okSs.mono a hp hg h.2.1,okSs.mono b hp hg h.2.2⟩
 | .for_ _ _ it b,_,_,_,_,hp,hg,h=>⟨okI.mono hp hg it h.1,okSs.mono b hp hg h.2⟩
 | .nev,_,_,_,_,_,_,_=>trivial
 | .retX k,_,_,_,_,hp,hg,h=>okXC.mono hp hg k h
 | .rais c as,_,_,_,_,hp,hg,h=>⟨hp _ _ h.1,okEs.mono hp hg as h.2⟩
 | .tryx Pn tab _ b hs,_,_,_,_,hp,hg,h=>⟨hp _ _ h.1,okSs.mono b hp hg h.2.1,okSs.mono hs (fun x sp z=>hRf_mono hp z) hg h.2.2⟩
theorem okSs.mono:∀ (s:Ss) {P P':Rf->DSp->Prop} {G G':Str->D->Prop} (hp:∀ x sp,P x sp->P' x sp) (hg:∀ x d,G x d->G' x d),okSs P G s->okSs P' G' s
 | .nil,_,_,_,_,_,_,_=>trivial
 | .cons s r,_,_,_,_,hp,hg,h=>⟨okS.mono s hp hg h.1,okSs.mono r hp hg h.2⟩
end
end DW
end
section
set_option maxHeartbeats 2000000
namespace DW
open PySem PySem.Spec PyProof.Rows L2
section
variable {X:Cx} {pos:Pos}
end
end DW
end
section
namespace DW
open PySem PySem.Spec PyProof.Rows L2
mutual
noncomputable def pd:D->PyData
 | .non=>.none
 | .bl b=>.bool b
 | .int i=>.int i
 | .str x=>.str ⟨x.toArray⟩
 | .tup ds=>.tuple (pds ds)
 | .lst ds=>.list (pds ds)
 | _=>.none
noncomputable def pds:List D->List PyData
 | []=>[]
 | d :: ds=>pd d :: pds ds
end
mutual
theorem Wg:∀ (n:Nat) (d:D),flat n d=true->(pd d).canLay0=true
 | _,.non,_=>by simp [pd,PyData.canLay0]
 | _,.bl _,_=>by simp [pd,PyData.canLay0]
 | _,.int _,_=>by simp [pd,PyData.canLay0]
 | _,.str x,h=>by
  simp only [pd,PyData.canLay0,PyData.strOk]
  simpa [flat] using h
 | n + 1,.tup ds,h=>by simp only [pd,PyData.canLay0]; exact Vv n ds (by simpa [flat] using h)
 | n + 1,.lst ds,h=>by simp only [pd,PyData.canLay0]; exact Vv n ds (by simpa [flat] using h)
 | 0,.tup _,h=>by simp [flat] at h
 | 0,.lst _,h=>by simp [flat] at h
 | _,.ro _,h=>by simp [flat] at h
 | _,.loc _,h=>by simp [flat] at h
 | _,.dic _ _,h=>by simp [flat] at h
 | _,.fdc _ _,h=>by simp [flat] at h
theorem Vv:∀ (n:Nat) (ds:List D),flats n ds=true->PyData.canLayAll0 (pds ds)=true
 | _,[],_=>by simp [pds,PyData.canLayAll0]
 | n,d :: ds,h=>by
  have h':flat n d=true/\flats n ds=true:=by simpa [flats] using h
  simp only [pds,PyData.canLayAll0,Wg n d h'.1,Vv n ds h'.2,Bool.and_self]
end
mutual
theorem Yy:∀ (n:Nat) (d:D),flat n d=true->(pd d).depth<=n
 | _,.non,_=>by simp [pd,PyData.depth]
 | _,.bl _,_=>by simp [pd,PyData.depth]
 | _,.int _,_=>by simp [pd,PyData.depth]
 | _,.str x,h=>by simp [pd,PyData.depth]
 | n + 1,.tup ds,h=>by simp only [pd,PyData.depth]; have:=V3 n ds (by simpa [flat] using h); omega
 | n + 1,.lst ds,h=>by simp only [pd,PyData.depth]; have:=V3 n ds (by simpa [flat] using h); omega
 | 0,.tup _,h=>by simp [flat] at h
 | 0,.lst _,h=>by simp [flat] at h
 | _,.ro _,h=>by simp [flat] at h
 | _,.loc _,h=>by simp [flat] at h
 | _,.dic _ _,h=>by simp [flat] at h
 | _,.fdc _ _,h=>by simp [flat] at h
theorem V3:∀ (n:Nat) (ds:List D),flats n ds=true->PyData.depthAll (pds ds)<=n
 | _,[],_=>by simp [pds,PyData.depthAll]
 | n,d :: ds,h=>by
  have h':flat n d=true/\flats n ds=true:=by simpa [flats] using h
  simp only [pds,PyData.depthAll]
  have h1:=Yy n d h'.1
  have h2:=V3 n ds h'.2
  omega
end
theorem Yax (x y:List Nat):((⟨x.toArray⟩:Str) == ⟨y.toArray⟩)=(x == y):=by
 by_cases h:x=y
 ·subst h; simp
 ·have h1:¬ (⟨x.toArray⟩:Str)=⟨y.toArray⟩:=fun e=>h (by injection e with e; simpa using congrArg Array.toList e)
  rw [beq_eq_false_iff_ne.mpr h1,beq_eq_false_iff_ne.mpr h]
mutual
theorem Z9:∀ (n m:Nat) (d e:D),flat n d=true->flat m e=true->PyData.eqv (pd d) (pd e)=eqD d e
 | _,_,.non,e,_,he=>by cases e <;> simp_all [pd,PyData.eqv,eqD,flat]
 | _,_,.bl a,e,_,he=>by cases e <;> simp_all [pd,PyData.eqv,eqD,flat,b2i]
 | _,_,.int i,e,_,he=>by cases e <;> simp_all [pd,PyData.eqv,eqD,flat,b2i]
 | _,_,.str x,e,_,he=>by cases e <;> simp_all [pd,PyData.eqv,eqD,flat,Yax]
 | n + 1,m,.tup ds,e,hd,he=>by
  cases e with
  | tup es =>
   cases m with
   | zero=>simp [flat] at he
   | succ m =>
    simp only [pd,PyData.eqv,eqD]
    exact Yas n m ds es (by simpa [flat] using hd) (by simpa [flat] using he)
  | _=>simp_all [pd,PyData.eqv,eqD,flat]
 | n + 1,m,.lst ds,e,hd,he=>by
  cases e with
  | lst es =>
   cases m with
   | zero=>simp [flat] at he
   | succ m =>
    simp only [pd,PyData.eqv,eqD]
    exact Yas n m ds es (by simpa [flat] using hd) (by simpa [flat] using he)
  | _=>simp_all [pd,PyData.eqv,eqD,flat]
 | 0,_,.tup _,_,h,_=>by simp [flat] at h
 | 0,_,.lst _,_,h,_=>by simp [flat] at h
 | _,_,.ro _,_,h,_=>by simp [flat] at h
 | _,_,.loc _,_,h,_=>by simp [flat] at h
 | _,_,.dic _ _,_,h,_=>by simp [flat] at h
 | _,_,.fdc _ _,_,h,_=>by simp [flat] at h
theorem Yas:∀ (n m:Nat) (ds es:List D),flats n ds=true->flats m es=true->PyData.eqvAll (pds ds) (pds es)=eqDs ds es
 | _,_,[],es,_,_=>by cases es <;> simp [pds,PyData.eqvAll,eqDs]
 | n,m,d :: ds,es,hd,he=>by
  cases es with
  | nil=>simp [pds,PyData.eqvAll,eqDs]
  | cons e es =>
   have hd':flat n d=true/\flats n ds=true:=by simpa [flats] using hd
   have he':flat m e=true/\flats m es=true:=by simpa [flats] using he
   simp only [pds,PyData.eqvAll,eqDs]
   rw [Z9 n m d e hd'.1 he'.1,Yas n m ds es hd'.2 he'.2]
end
section
variable {X:Cx} {pins:List (Addr×Obj)} {σ:L2.St} {H:Hp} {s:Shared} {θ:List Addr} {μ:Mem}
mutual
theorem Zm (I:Inv X pins σ H s):∀ (n:Nat) (d:D) (v:V) (u:Value),Rp X.K H θ μ d v->RelV v u->flat n d=true->∃ as,Reads s.heap u (pd d) as
 | _,.non,v,u,r,ru,_=>by cases Yv r; cases ru; exact ⟨_,by unfold pd; exact .none⟩
 | _,.bl b,v,u,r,ru,_=>by cases Vh r; cases ru; exact ⟨_,by unfold pd; exact .bool b⟩
 | _,.int i,v,u,r,ru,_=>by cases Zb r; obtain ⟨t,rfl⟩:=ru; exact ⟨_,by unfold pd; exact .int i t⟩
 | _,.str x,v,u,r,ru,_=>by cases (Vc r).1; obtain ⟨t,rfl⟩:=ru; exact ⟨_,by unfold pd; exact .str _ t⟩
 | n + 1,.tup ds,v,u,r,ru,h=>by
  obtain ⟨a,xs,rfl,hH,_,rs⟩:=Zf r
  cases ru
  obtain ⟨its,rv,⟨o,ho,hc,k,hd⟩,_⟩:=I.tuple (SqT.of hH)
  obtain ⟨as,ra⟩:=Wq I n ds xs its rs rv (by simpa [flat] using h)
  exact ⟨as,by unfold pd; exact .tuple ho hc hd (by simpa using ra)⟩
 | n + 1,.lst ds,v,u,r,ru,h=>by
  obtain ⟨a,xs,rfl,hH,_,rs⟩:=Wj r
  cases ru
  obtain ⟨its,rv,⟨o,k,ho,hc,_,hd⟩,_⟩:=I.list (SqL.of hH)
  obtain ⟨as,ra⟩:=Wq I n ds xs its rs rv (by simpa [flat] using h)
  exact ⟨a :: as,by unfold pd; exact .list ho hc hd (by simpa using ra)⟩
 | 0,.tup _,_,_,_,_,h=>by simp [flat] at h
 | 0,.lst _,_,_,_,_,h=>by simp [flat] at h
 | _,.ro _,_,_,_,_,h=>by simp [flat] at h
 | _,.loc _,_,_,_,_,h=>by simp [flat] at h
 | _,.dic _ _,_,_,_,_,h=>by simp [flat] at h
 | _,.fdc _ _,_,_,_,_,h=>by simp [flat] at h
theorem Wq (I:Inv X pins σ H s):∀ (n:Nat) (ds:List D) (vs:List V) (us:List Value),Rps X.K H θ μ ds vs->Vals vs us->flats n ds=true->∃ as,ReadsAll s.heap us (pds ds) as
 | _,[],vs,us,r,rv,_=>by cases r.nil_inv; cases rv; exact ⟨_,by unfold pds; exact .nil⟩
 | n,d :: ds,vs,us,r,rv,h=>by
  obtain ⟨v,vr,rfl,h1,h2⟩:=r.cons_inv
  have h':flat n d=true/\flats n ds=true:=by simpa [flats] using h
  cases rv with
  | cons ru rr =>
   obtain ⟨as,ra⟩:=Zm I n d v _ h1 ru h'.1
   obtain ⟨bs,rb⟩:=Wq I n ds vr _ h2 rr h'.2
   exact ⟨as ++ bs,by unfold pds; exact .cons ra rb⟩
end
end
theorem Zad:∀ (x y:List Nat),ltCs x y=decide (x < y)
 | [],[]=>by simp [ltCs]
 | [],_ :: _=>by simp [ltCs]
 | _ :: _,[]=>by simp [ltCs]
 | a :: x,b :: y=>by
  unfold ltCs
  by_cases h:a=b
  ·subst h
   rw [if_pos rfl,Zad x y]
   simp [List.cons_lt_cons_iff]
  ·rw [if_neg h]
   simp [List.cons_lt_cons_iff,h]
noncomputable def SV (u:Value) (d:D):Prop:=(∃ i t,u = .int i t/\d = .int i)∨∃ x t,u = .str ⟨x.toArray⟩ t/\d = .str x
noncomputable abbrev SVs:List Value->List D->Prop:=Paired SV
theorem sv_eq {A:Around} {s:Shared} {u v:Value} {d e:D} (h:SV u d) (k:SV v e):SeqAt.EqAt A s u v (eqD d e):=by
 rcases h with ⟨i,t,rfl,rfl⟩ | ⟨x,t,rfl,rfl⟩
 ·rcases k with ⟨j,t',rfl,rfl⟩ | ⟨y,t',rfl,rfl⟩
  ·simp only [eqD]; exact SeqAt.EqAt.int_int i t j t'
  ·simp only [eqD]; exact SeqAt.EqAt.int_str i t _ t'
 ·rcases k with ⟨j,t',rfl,rfl⟩ | ⟨y,t',rfl,rfl⟩
  ·simp only [eqD]; exact SeqAt.EqAt.str_int _ t j t'
  ·simp only [eqD]; rw [<- Yax]; exact SeqAt.EqAt.str_str _ t _ t'
theorem sv_lt {A:Around} {s:Shared} {u v:Value} {d e:D} {b:Bool} (h:SV u d) (k:SV v e) (hb:ltD d e=some b) (prog:Program) (w:World) (E:Value->Shared->Prop) (Q:Value->Shared->Prop) (q:Q (.bool b) s) :
  wpAny (model prog w) A (richCompare .Lt u v) Q E s:=by
 rcases h with ⟨i,t,rfl,rfl⟩ | ⟨x,t,rfl,rfl⟩
 ·rcases k with ⟨j,t',rfl,rfl⟩ | ⟨y,t',rfl,rfl⟩
  ·simp only [ltD,Option.some.injEq] at hb
   subst hb
   exact (PyProof.Rows.lt_int q:wpAny (model prog w) A (compareOp .Lt (.int i t) (.int j t')) Q E s)
  ·simp [ltD] at hb
 ·rcases k with ⟨j,t',rfl,rfl⟩ | ⟨y,t',rfl,rfl⟩
  ·simp [ltD] at hb
  ·simp only [ltD,Option.some.injEq] at hb
   subst hb
   rw [Zad] at q
   exact (PySem.P.lt_str (by simpa using q):wpAny (model prog w) A (compareOp .Lt (.str ⟨x.toArray⟩ t) (.str ⟨y.toArray⟩ t')) Q E s)
section
open PySem.SeqAt
open PySem.AutoSeq1 (wpAny_loadPart')
open PySem.MeetsSeq PySem.MeetsSeq2 PySem.MeetsSeq3
theorem Xbl (d e:D) (ds es:List D):ltDs (d :: ds) (e :: es)=if eqD d e then ltDs ds es else ltD d e:=by rw [ltDs]
theorem Wan (l b:Addr) (items items2:Array Value) (n n2:Nat) (dd dd2:Option Addr) (sl sl2:Array (Option Value)) (ns ms:List D) (r:Bool) (hi:SVs items.toList ns) (hj:SVs items2.toList ms) (hr:ltDs ns ms=some r) :
  Meets (Builtin.«tuple.__lt__» ⟨[.ref l,.ref b],[]⟩)
   (fun _ R s=>s.heap.get? l=some { cls:=.type "tuple",dict:=dd,data:=.seq items n,slots:=sl }/\s.heap.get? b=some { cls:=.type "tuple",dict:=dd2,data:=.seq items2 n2,slots:=sl2 } /\
    R (.ok (.ret (.bool r))) s) :=
 .of_wp fun prog w A R s h=>by
  obtain ⟨hp,g,d,tk,os⟩:=s; obtain ⟨hl,hb,h⟩:=h
  have f2:=AutoSeq1.sub_tuple_tuple
  have z1:items.size=ns.length:=by rw [<- Paired.length hi]; simp
  have z2:items2.size=ms.length:=by rw [<- Paired.length hj]; simp
  wp_walk using wpAny_loadPart' hl,wpAny_loadPart' hb,wpAny_forIn_list _ (fun rest b s'=>b.1=none/\s'=⟨hp,g,d,tk,os⟩/\∃ (vs ws:List Value) (ns' ms':List D),rest=vs.zip ws /\
   SVs vs ns'/\SVs ws ms'/\ns'.length + items2.size=ms'.length + items.size/\ltDs ns' ms'=some r) _
  case turn =>
   rintro ⟨y,x⟩ rest b s' ⟨hb',rfl,vs,ws,ns',ms',hz,hvi,hwi,hlen,hR⟩
   cases hvi with
   | nil=>rw [List.zip_nil_left] at hz; cases hz
   | @cons u du vs' ns'' hu hvi' =>
    cases hwi with
    | nil=>rw [List.zip_nil_right] at hz; cases hz
    | @cons v dv ws' ms'' hv hwi' =>
     rw [List.zip_cons_cons] at hz
     injection hz with hyx hrest
     injection hyx with hy hx
     subst hy hx
     rw [Xbl] at hR
     simp only [List.length_cons] at hlen
     have he:=sv_eq (A:=A.in1) (s:=⟨hp,g,d,tk,os⟩) hu hv
     refine wpAny_bind (he prog w _ _ ?_)
     cases e:eqD du dv with
     | true =>
      rw [e,if_pos rfl] at hR
      wp_walk
      exact ⟨rfl,rfl,_,_,_,_,hrest,hvi',hwi',by omega,hR⟩
     | false =>
      rw [e,if_neg Bool.false_ne_true] at hR
      have hri:=sv_lt (A:=A.in1) (s:=⟨hp,g,d,tk,os⟩) hu hv hR prog w
      wp_walk using hri
      exact ⟨_,rfl,by simpa using h⟩
  case fin =>
   rintro ⟨b1,b2⟩ s' ⟨hb',rfl,vs,ws,ns',ms',hz,hvi,hwi,hlen,hR⟩
   simp only at hb'
   subst hb'
   have hv:r=decide (items.size < items2.size):=by
    cases hvi with
    | nil =>
     cases hwi with
     | nil =>
      simp only [List.length_nil] at hlen
      simp [ltDs] at hR
      rw [hR]
      exact (decide_eq_false (by omega)).symm
     | cons hu hw =>
      simp only [List.length_nil,List.length_cons] at hlen
      simp [ltDs] at hR
      rw [hR]
      exact (decide_eq_true (by omega)).symm
    | cons hu hv =>
     cases hwi with
     | nil =>
      simp only [List.length_nil,List.length_cons] at hlen
      simp [ltDs] at hR
      rw [hR]
      exact (decide_eq_false (by omega)).symm
     | cons hu' hw =>
      rw [List.zip_cons_cons] at hz
      cases hz
   rw [hv] at h
   wp_walk
   exact ⟨_,rfl,by simpa [Builtin.Tuple.tupleCompareSizes] using h⟩
  case h =>
   exact ⟨rfl,rfl,items.toList,items2.toList,ns,ms,rfl,hi,hj,by omega,hr⟩
end
theorem lt_tupSV {prog:Program} {w:World} {A:Around} {E:Value->Shared->Prop} {s:Shared} {l b:Addr} {items items2:Array Value} {ns ms:List D} {r:Bool} {Q:Value->Shared->Prop} (hl:IsTup s.heap l items) (hb:IsTup s.heap b items2) (hi:SVs items.toList ns) (hj:SVs items2.toList ms)
  (hr:ltDs ns ms=some r) (hu:A.units < cLine) (h:Q (.bool r) s):wpAny (model prog w) A (compareOp .Lt (.ref l) (.ref b)) Q E s:=by
 obtain ⟨⟨cls,dd,data,sl⟩,ho,hc,n,hd⟩:=id hl
 obtain ⟨⟨cls2,dd2,data2,sl2⟩,ho2,hc2,n2,hd2⟩:=id hb
 simp only at hc hd hc2 hd2
 subst hc hd hc2 hd2
 exact richCompare_meets_room (op:=.Lt) ⟨_,ho,rfl⟩ ⟨_,ho2,rfl⟩ PySem.F.slot_tuple_lt PySem.F.entry_tuple_lt (PySem.F.args_tuple_lt_2 _ _) (Wan l b items items2 n n2 dd dd2 sl sl2 ns ms r hi hj hr)
  ⟨ho,ho2,show Value.bool r≠Value.notImplemented/\Q (.bool r) s from ⟨(fun x=>nomatch x),h⟩⟩ hu
end DW
end
section
namespace DW
open PySem PySem.Spec PyProof.Rows L2
theorem Xai {a b:DKey} (h:keyOf a=keyOf b):a=b:=by
 cases a with
 | inl i=>cases b with
  | inl j=>simp only [keyOf,Sum.inl.injEq] at h; rw [h]
  | inr y=>cases h
 | inr x=>cases b with
  | inl j=>cases h
  | inr y =>
   simp only [keyOf,Sum.inr.injEq,Str.mk.injEq] at h
   have:x=y:=by simpa using congrArg Array.toList h
   rw [this]
theorem Za8 {a b:List DKey} (h:a.map keyOf=b.map keyOf):a=b:=List.map_inj_right (fun _ _=>Xai) |>.mp h
section
variable {κ κ':Type} [DecidableEq κ] [DecidableEq κ']
theorem Ya0 (f:κ->κ') (inj:∀ a b,f a=f b->a=b) {ks:List κ} {kvs:List (κ'×V)} {k:κ} (h1:kvs.map (·.1)=ks.map f):(kvs.any fun kv=>decide (kv.1=f k))=true<->k∈ks:=by
 have e:(kvs.any fun kv=>decide (kv.1=f k))=(kvs.map (·.1)).any fun q=>decide (q=f k):=by rw [List.any_map]; rfl
 rw [e,h1,List.any_eq_true]
 constructor
 ·rintro ⟨q,hq,e⟩
  obtain ⟨k',hk,rfl⟩:=List.mem_map.mp hq
  have:=inj _ _ (of_decide_eq_true e)
  subst this
  exact hk
 ·intro hk
  exact ⟨f k,List.mem_map.mpr ⟨k,hk,rfl⟩,by simp⟩
end
section
variable {K:PySem.W.Frag} {H:Hp} {θ:List Addr} {μ:Mem}
theorem Wbn {d:D} {k:DKey} {v:V} (h:keyD d=some k) (r:Rp K H θ μ d v):v=kV (keyOf k):=by
 cases d with
 | int i=>simp only [keyD,Option.some.injEq] at h; subst h; exact Zb r
 | str x=>simp only [keyD,Option.some.injEq] at h; subst h; exact (Vc r).1
 | _=>simp [keyD] at h
theorem Za0:∀ {ds:List D} {ks:List DKey} {vs:List V},Ya8 ds=some ks->Rps K H θ μ ds vs->vs=(ks.map keyOf).map kV
 | [],ks,vs,h,r=>by simp only [Ya8,Option.some.injEq] at h; subst h; rw [r.nil_inv]; rfl
 | d :: ds,ks,vs,h,r=>by
  obtain ⟨v,vr,rfl,r1,r2⟩:=r.cons_inv
  simp only [Ya8] at h
  split at h
  ·rename_i k hk
   cases e:Ya8 ds with
   | none=>rw [e] at h; cases h
   | some ks' =>
    rw [e] at h
    simp only [Option.map_some,Option.some.injEq] at h
    subst h
    rw [List.map_cons,List.map_cons,Wbn hk r1,Za0 e r2]
  ·cases h
theorem in_dict {neg:Bool} {d e:D} {x y:V} {Qd:QD} (wk:WOk K H θ μ) (rd:Rp K H θ μ d x) (re:Rp K H θ μ e y) (h:wInD neg d e μ Qd):∃ a o,y = .ref a/\DGet H a x o/\Qd (.bl (neg != o.isSome)) μ:=by
 unfold wInD at h
 split at h
 ·rename_i n
  obtain ⟨a,rfl,ha⟩:=Ye re
  split at h
  ·rename_i ks ds hn
   obtain ⟨kvs,e1,e2,e3⟩:=wk.cell n _ a hn ha
   split at h
   ·rename_i k hk
    refine ⟨a,valV kvs (keyOf k),rfl,by rw [Wbn hk rd]; exact DGet.k e1,?_⟩
    have z:(valV kvs (keyOf k)).isSome=hasK ks k:=by
     rw [<- Xx,Bool.eq_iff_iff,Ya0 keyOf (fun _ _=>Xai) e2,Xa1]
    rw [z]; exact h
   ·exact h.elim
  ·rename_i ks ds hn
   obtain ⟨kvs,e1,e2,e3⟩:=wk.cell n _ a hn ha
   split at h
   ·rename_i es
    split at h
    ·rename_i k hk
     obtain ⟨b,xs,rfl,hb,_,rs⟩:=Zf rd
     rw [Za0 hk rs] at hb
     refine ⟨a,valV kvs (k.map keyOf),rfl,DGet.t e1 hb,?_⟩
     have z:(valV kvs (k.map keyOf)).isSome=hasK ks k:=by
      rw [<- Xx,Bool.eq_iff_iff,Ya0 (fun l:List DKey=>l.map keyOf) (fun _ _=>Za8) e2,Xa1]
     rw [z]; exact h
    ·exact h.elim
   ·exact h.elim
  ·exact h.elim
 ·exact h.elim
theorem len_dict {d:D} {v:V} {Qd:QD} (wk:WOk K H θ μ) (rd:Rp K H θ μ d v) (h:wLenD d μ Qd):∃ a kvs,v = .ref a/\H a=some (.dK kvs)/\Qd (.int kvs.length) μ:=by
 unfold wLenD at h
 split at h
 ·rename_i n
  obtain ⟨a,rfl,ha⟩:=Ye rd
  split at h
  ·rename_i ks ds hn
   obtain ⟨kvs,e1,e2,e3⟩:=wk.cell n _ a hn ha
   have l:kvs.length=ks.length:=by have:=congrArg List.length e2; simpa using this
   exact ⟨a,kvs,rfl,e1,by rw [l]; exact h⟩
  ·exact h.elim
 ·exact h.elim
end
end DW
end
section
namespace DW
open PySem PySem.Spec PyProof.Rows L2
end DW
end
section
namespace DW
open PySem PySem.Spec PyProof.Rows L2
section
variable {X:Cx}
theorem sv_of {H:Hp} {θ:List Addr} {μ:Mem} {d e:D} {v:V} {u:Value} {b:Bool} (r:Rp X.K H θ μ d v) (ru:RelV v u) (h:(∃ i,d = .int i)∨∃ x,d = .str x):SV u d:=by
 rcases h with ⟨i,rfl⟩ | ⟨x,rfl⟩
 ·cases Zb r; obtain ⟨t,rfl⟩:=ru; exact .inl ⟨i,t,rfl,rfl⟩
 ·cases (Vc r).1; obtain ⟨t,rfl⟩:=ru; exact .inr ⟨x,t,rfl,rfl⟩
theorem Ybg {d:D} (h:sc2 d=true):(∃ i,d = .int i)∨∃ x,d = .str x:=by
 cases d <;> simp [sc2] at h
 ·exact .inl ⟨_,rfl⟩
 ·exact .inr ⟨_,rfl⟩
theorem Wbd {H:Hp} {θ:List Addr} {μ:Mem}:∀ {ds:List D} {vs:List V} {us:List Value},Rps X.K H θ μ ds vs->Vals vs us->ds.all sc2=true->SVs us ds
 | [],vs,us,r,rv,_=>by cases r.nil_inv; cases rv; exact .nil
 | d :: ds,vs,us,r,rv,h=>by
  obtain ⟨v,vr,rfl,h1,h2⟩:=r.cons_inv
  simp only [List.all_cons,Bool.and_eq_true] at h
  cases rv with
  | cons ru rr=>exact .cons (sv_of (e:=.non) (b:=true) h1 ru (Ybg h.1)) (Wbd h2 rr h.2)
theorem nonV {K:PySem.W.Frag} {H:Hp} {θ:List Addr} {μ:Mem} {d:D} {x:V} (r:Rp K H θ μ d x):decide (x = .non)=Ybp d:=by
 cases d with
 | non=>cases Yv r; rfl
 | bl b=>cases Vh r; rfl
 | int b=>cases Zb r; rfl
 | str b=>cases (Vc r).1; rfl
 | tup ds=>obtain ⟨a,xs,rfl,_⟩:=Zf r; rfl
 | lst ds=>obtain ⟨a,xs,rfl,_⟩:=Wj r; rfl
 | ro ds=>obtain ⟨a,xs,rfl,_⟩:=Va0 r; rfl
 | loc n=>obtain ⟨a,rfl,_⟩:=Ye r; rfl
 | dic ks ds=>obtain ⟨a,xs,rfl,_⟩:=Xar r; rfl
 | fdc ks ds=>obtain ⟨a,o,xs,rfl,_⟩:=Ybq r; rfl
noncomputable def V1 (its:List Value) (ds:List D) (x:D) (y:Value):Bool:=open Classical in if h:∃ j:Nat,its[j]? = some y then (match ds[h.choose]? with | some d=>eqD d x | none=>false) else false
theorem Ya1 {pins:List (Addr×Obj)} {σ:L2.St} {H:Hp} {s:Shared} {θ:List Addr} {μ:Mem} {d e:D} {x y:V} {v u:Value} {ds:List D} (I:Inv X pins σ H s) (wk:WOk X.K H θ μ) (re:Rp X.K H θ μ e y) (ry:RelV y u) (hq:Wb μ e=some ds)
  (f1:flats 60 ds=true) (f2:flat 60 d=true) (rd:Rp X.K H θ μ d x) (rx:RelV x v) (hu:X.A.units + 64 < cLine) :
  ∃ (its:List Value) (a:Addr),u = .ref a/\(s.heap.IsList a its.toArray∨s.heap.IsTuple a its.toArray)/\(∀ w∈its.toArray,SeqAt.EqAt X.A.in1 s w v (V1 its ds d w))/\its.toArray.any (V1 its ds d)=ds.any fun d'=>eqD d' d:=by
 obtain ⟨a,xs,rfl,hs,rs⟩:=Zi wk re hq
 cases ry
 obtain ⟨its,rv,hl⟩:∃ its:List Value,Vals xs its/\(s.heap.IsList a its.toArray∨s.heap.IsTuple a its.toArray):=by
  rcases hs with h | h
  ·obtain ⟨its,rv,p,_⟩:=I.list h
   exact ⟨its,rv,.inl p.isList⟩
  ·obtain ⟨its,rv,p,_⟩:=I.tuple h
   exact ⟨its,rv,.inr p⟩
 obtain ⟨as0,ra0⟩:=Zm I 60 d x v rd rx f2
 have fl:∀ (n:Nat) (l:List D),flats n l=true->∀ (j:Nat) (e:D),l[j]? = some e->flat n e=true:=by
  intro n l
  induction l with
  | nil=>intro _ j e h; simp at h
  | cons c l ih =>
   intro h j e he
   have h':flat n c=true/\flats n l=true:=by simpa [flats] using h
   cases j with
   | zero=>simp at he; subst he; exact h'.1
   | succ j=>exact ih h'.2 j e (by simpa using he)
 have at_:∀ (j:Nat) (w:Value),its[j]? = some w->∃ (e:D) (as:List Addr),ds[j]? = some e/\Reads s.heap w (pd e) as/\flat 60 e=true:=by
  intro j w hw
  have hj:j < its.length:=(List.getElem?_eq_some_iff.mp hw).1
  have hj2:j < ds.length:=by rw [rs.length,rv.length]; exact hj
  have he:ds[j]? = some ds[j]:=List.getElem?_eq_getElem hj2
  obtain ⟨z,z1,z2⟩:=rs.get he
  obtain ⟨w',w1,w2⟩:=rv.get z1
  rw [hw] at w1; cases w1
  obtain ⟨as,ra⟩:=Zm I 60 ds[j] z w z2 w2 (fl 60 ds f1 j _ he)
  exact ⟨ds[j],as,he,ra,fl 60 ds f1 j _ he⟩
 have val:∀ (j:Nat) (w:Value) (e:D),its[j]? = some w->ds[j]? = some e->V1 its ds d w=eqD e d:=by
  intro j w e hw he
  have hx:∃ j:Nat,its[j]? = some w:=⟨j,hw⟩
  unfold V1
  rw [dif_pos hx]
  obtain ⟨e1,as1,g1,g2,g3⟩:=at_ _ w hx.choose_spec
  obtain ⟨e2,as2,k1,k2,k3⟩:=at_ j w hw
  rw [he] at k1; cases k1
  rw [g1]
  have un:=SeqAt.Reads.unique (pd e1) (pd e) _ _ _ (Wg _ _ g3) g2 k2
  show eqD e1 d=eqD e d
  rw [<- Z9 60 60 e1 d g3 f2,<- Z9 60 60 e d k3 f2,un]
 refine ⟨its,a,rfl,hl,fun w hw=>?_,?_⟩
 ·obtain ⟨j,hj⟩:=List.getElem?_of_mem (show w∈its by simpa using hw)
  obtain ⟨e,as,k1,k2,k3⟩:=at_ j w hj
  rw [val j w e hj k1,<- Z9 60 60 e d k3 f2]
  have hd:=Yy _ _ f2
  exact SeqAt.eqAt_reads (pd e) (pd d) X.A.in1 s w v as as0 k2 ra0 (Wg _ _ k3) (Wg _ _ f2) (by show X.A.units + 1 + _ < cLine; omega)
 ·have key:∀ (js:List Nat),(∀ j∈js,j < its.length)->(js.any fun j=>(its[j]?.map (V1 its ds d)).getD false)=js.any fun j=>(ds[j]?.map fun d'=>eqD d' d).getD false:=by
   intro js
   induction js with
   | nil=>intro _; rfl
   | cons j js ih =>
    intro h
    have hj:=h j (by simp)
    have hj2:j < ds.length:=by rw [rs.length,rv.length]; exact hj
    rw [List.any_cons,List.any_cons,ih fun i hi=>h i (by simp [hi])]
    congr 1
    rw [List.getElem?_eq_getElem hj,List.getElem?_eq_getElem hj2]
    exact val j _ _ (List.getElem?_eq_getElem hj) (List.getElem?_eq_getElem hj2)
  have hlen:its.length=ds.length:=by rw [rs.length,rv.length]
  have all:∀ {α:Type} (l:List α) (p:α->Bool),l.any p=(List.range l.length).any fun j=>(l[j]?.map p).getD false:=by
   intro α l p
   rw [Bool.eq_iff_iff,List.any_eq_true,List.any_eq_true]
   constructor
   ·rintro ⟨z,hz,hp⟩
    obtain ⟨j,hj⟩:=List.getElem?_of_mem hz
    have:=(List.getElem?_eq_some_iff.mp hj).1
    exact ⟨j,by simpa using this,by rw [hj]; simpa using hp⟩
   ·rintro ⟨j,hj,hp⟩
    have hj':j < l.length:=by simpa using hj
    rw [List.getElem?_eq_getElem hj'] at hp
    exact ⟨l[j],List.getElem_mem hj',by simpa using hp⟩
  rw [List.any_toArray,all its,all ds,hlen]
  exact key _ fun j hj=>by rw [hlen]; simpa using hj
theorem V9 {k:Nat} (hr:Room k X.A) (op:CmpOp):OpR X (compareOp op) (low2 X.K (wCmp op)):=by
 intro pins s σ H x y v u Q I rx ry h
 obtain ⟨d,e,θ,μ,Qd,wk,rd,re,hw,f⟩:=h
 have hu:X.A.units + 64 < cLine:=hr.units
 have bl:∀ {b:Bool} {s':Shared},Inv X pins σ H s'->Qd (.bl b) μ->EP X pins σ Q (.bool b) s':=fun I' q=>⟨.bl _,H,I',rfl,f.at wk Vl q⟩
 cases op with
 | Eq =>
  obtain ⟨f1,f2,q⟩:=hw
  obtain ⟨as,ra⟩:=Zm I 60 d x v rd rx f1
  obtain ⟨bs,rb⟩:=Zm I 60 e y u re ry f2
  refine SeqAt.compareEq_reads ra rb (Wg _ _ f1) (Wg _ _ f2) ?_ ?_
  ·have:=Yy _ _ f1
   omega
  ·rw [Z9 _ _ _ _ f1 f2]; exact bl I q
 | NotEq =>
  by_cases hd:∃ n,d = .loc n
  ·obtain ⟨n,rfl⟩:=hd
   have hw:wNeE n e μ Qd:=hw
   unfold wNeE at hw
   split at hw
   ·rename_i ds hn
    split at hw
    ·obtain ⟨a,rfl,ha⟩:=Ye rd
     cases rx
     obtain ⟨xs,hx,rs⟩:=wk.list hn ha
     obtain ⟨its,vi,pl,hz⟩:=I.list (SqL.of hx)
     obtain ⟨b,ys,rfl,hy,_,r2⟩:=Wj re
     cases ry
     cases r2.nil_inv
     obtain ⟨its2,vi2,pl2,hz2⟩:=I.list (SqL.of hy)
     have e2:its2=[]:=List.length_eq_zero_iff.mp vi2.length.symm
     subst e2
     have l1:its.length=ds.length:=by rw [<- vi.length,<- rs.length]
     cases ds with
     | nil =>
      have e1:its=[]:=List.length_eq_zero_iff.mp (by rw [l1]; rfl)
      subst e1
      exact SeqAt.RcNeAt.lists (e:=fun _=>true) pl.isList pl2.isList rfl (by omega) (fun j h1 h2=>absurd h1 (by simp)) _ _ _ _ (bl I hw)
     | cons d0 ds =>
      exact SeqAt.RcNeAt.lists_lengths pl.isList pl2.isList (by simp at l1 ⊢; rw [<- List.length_eq_zero_iff,l1]; simp) (by omega) _ _ _ _ (bl I hw)
    ·exact hw.elim
   ·exact hw.elim
  have hw:flat 60 d=true/\flat 60 e=true/\Qd (.bl (!eqD d e)) μ:=by
   cases d with
   | loc n=>exact absurd ⟨n,rfl⟩ hd
   | _=>exact hw
  obtain ⟨f1,f2,q⟩:=hw
  obtain ⟨as,ra⟩:=Zm I 60 d x v rd rx f1
  obtain ⟨bs,rb⟩:=Zm I 60 e y u re ry f2
  refine SeqAt.compareNe_reads ra rb (Wg _ _ f1) (Wg _ _ f2) ?_ ?_
  ·have:=Yy _ _ f1
   omega
  ·rw [Z9 _ _ _ _ f1 f2]; exact bl I q
 | Lt =>
  simp only [wCmp] at hw
  cases d with
  | int i =>
   cases e with
   | int j=>simp only [ltD] at hw; exact op_lt pins s σ H x y v u Q I rx ry ⟨i,j,Zb rd,Zb re,f.at wk Vl hw⟩
   | _=>simp [ltD] at hw
  | str a =>
   cases e with
   | str b =>
    simp only [ltD] at hw
    refine Vbj pins s σ H x y v u Q I rx ry ⟨_,_,(Vc rd).1,(Vc re).1,f.at wk Vl ?_⟩
    rw [Zad] at hw
    simpa using hw
   | _=>simp [ltD] at hw
  | tup ds =>
   cases e with
   | tup es =>
    simp only [ltD] at hw
    split at hw
    ·rename_i r hl
     split at hl
     ·rename_i hsc
      rw [Bool.and_eq_true] at hsc
      obtain ⟨a,xs,rfl,h1,_,r1⟩:=Zf rd
      obtain ⟨b,ys,rfl,h2,_,r2⟩:=Zf re
      cases rx; cases ry
      obtain ⟨its,rv1,p1,_⟩:=I.tuple (SqT.of h1)
      obtain ⟨jts,rv2,p2,_⟩:=I.tuple (SqT.of h2)
      exact lt_tupSV p1 p2 (by simpa using Wbd r1 rv1 hsc.1) (by simpa using Wbd r2 rv2 hsc.2) hl (by omega) (bl I hw)
     ·cases hl
    ·exact hw.elim
   | _=>simp [ltD] at hw
  | _=>simp [ltD] at hw
 | LtE =>
  cases d with
  | int i =>
   cases e with
   | int j=>exact op_le pins s σ H x y v u Q I rx ry ⟨i,j,Zb rd,Zb re,f.at wk Vl hw⟩
   | _=>exact hw.elim
  | str a =>
   cases e with
   | str b =>
    have hw:Qd (.bl (!ltCs b a)) μ:=hw
    cases (Vc rd).1
    cases (Vc re).1
    obtain ⟨t,rfl⟩:=rx
    obtain ⟨t',rfl⟩:=ry
    refine PySem.P.le_str ?_
    rw [Zad] at hw
    refine bl I ?_
    simpa using hw
   | _=>exact hw.elim
  | _=>exact hw.elim
 | Gt =>
  cases d with
  | int i =>
   cases e with
   | int j=>exact op_gt pins s σ H x y v u Q I rx ry ⟨i,j,Zb rd,Zb re,f.at wk Vl hw⟩
   | _=>exact hw.elim
  | _=>exact hw.elim
 | GtE =>
  cases d with
  | int i =>
   cases e with
   | int j=>exact op_ge pins s σ H x y v u Q I rx ry ⟨i,j,Zb rd,Zb re,f.at wk Vl hw⟩
   | _=>exact hw.elim
  | _=>exact hw.elim
 | Is =>
  cases e with
  | non =>
   refine op_isN pins s σ H x y v u Q I rx ry ⟨Yv re,f.at wk Vl ?_⟩
   have hw:Qd (.bl (Ybp d)) μ:=hw
   rw [nonV rd]; exact hw
  | bl b =>
   cases d with
   | bl a =>
    cases Vh rd; cases Vh re
    cases rx; cases ry
    exact is_bool (bl I hw)
   | _=>exact hw.elim
  | _=>exact hw.elim
 | IsNot =>
  cases e with
  | non =>
   refine op_notN pins s σ H x y v u Q I rx ry ⟨Yv re,f.at wk Vl ?_⟩
   have hw:Qd (.bl (!Ybp d)) μ:=hw
   rw [nonV rd]; exact hw
  | bl b =>
   cases d with
   | bl a =>
    cases Vh rd; cases Vh re
    cases rx; cases ry
    exact isnot_bool (bl I hw)
   | _=>exact hw.elim
  | _=>exact hw.elim
 | In =>
  have hw':(∃ t,e = .str t)∨(∃ ds,Wb μ e=some ds/\flats 60 ds=true/\flat 60 d=true/\Qd (.bl (ds.any fun d'=>eqD d' d)) μ)∨wInD false d e μ Qd:=by
   cases e with
   | str t=>exact .inl ⟨t,rfl⟩
   | _ =>
    right
    simp only [wCmp] at hw
    split at hw
    ·rename_i ds hq; exact .inl ⟨ds,hq,hw⟩
    ·exact .inr hw
  rcases hw' with ⟨t,rfl⟩ | ⟨ds,hq,f1,f2,q⟩ | hD
  ·cases d with
   | str a =>
    cases a with
    | nil=>exact hw.elim
    | cons c r =>
     cases r with
     | nil =>
      refine Zbk pins s σ H x y v u Q I rx ry ⟨_,_,(Vc rd).1,(Vc re).1,f.at wk Vl ?_⟩
      have q:Qd (.bl (t.contains c)) μ:=hw
      have q2:=StrLaws.found_one ⟨t.toArray⟩ c
      rw [show (⟨[c].toArray⟩:Str)=⟨#[c]⟩ from rfl,q2]
      simpa using q
     | cons _ _=>exact hw.elim
   | _=>exact hw.elim
  ·obtain ⟨its,a,e1,hsq,hany⟩:=Ya1 I wk re ry hq f1 f2 rd rx hu
   subst e1
   rcases hsq with hsq | hsq
   ·exact SeqAt.in_listAt _ hsq (fun y hy=>(hany.1 y hy)) (bl I (by rw [hany.2]; exact q))
   ·exact SeqAt.in_tupleAt _ hsq (fun y hy=>(hany.1 y hy)) (bl I (by rw [hany.2]; exact q))
  ·obtain ⟨a,o,rfl,g,q⟩:=in_dict wk rd re hD
   cases (show u=Value.ref a from ry)
   exact d_in (by omega) I g rx fun s' I'=>bl I' (by simpa using q)
 | NotIn =>
  have hw':(∃ t,e = .str t)∨(∃ ds,Wb μ e=some ds/\flats 60 ds=true/\flat 60 d=true/\Qd (.bl (!ds.any fun d'=>eqD d' d)) μ)∨wInD true d e μ Qd:=by
   cases e with
   | str t=>exact .inl ⟨t,rfl⟩
   | _ =>
    right
    simp only [wCmp] at hw
    split at hw
    ·rename_i ds hq; exact .inl ⟨ds,hq,hw⟩
    ·exact .inr hw
  rcases hw' with ⟨t,rfl⟩ | ⟨ds,hq,f1,f2,q⟩ | hD
  ·cases d with
   | str a =>
    cases a with
    | nil=>exact hw.elim
    | cons c r =>
     cases r with
     | nil =>
      refine Yah pins s σ H x y v u Q I rx ry ⟨_,_,(Vc rd).1,(Vc re).1,f.at wk Vl ?_⟩
      have q:Qd (.bl (!t.contains c)) μ:=hw
      have q2:=StrLaws.found_one ⟨t.toArray⟩ c
      rw [show (⟨[c].toArray⟩:Str)=⟨#[c]⟩ from rfl,q2]
      simpa using q
     | cons _ _=>exact hw.elim
   | _=>exact hw.elim
  ·obtain ⟨its,a,e1,hsq,hany⟩:=Ya1 I wk re ry hq f1 f2 rd rx hu
   subst e1
   rcases hsq with hsq | hsq
   ·exact SeqAt.notIn_listAt _ hsq (fun y hy=>(hany.1 y hy)) (bl I (by rw [hany.2]; exact q))
   ·exact SeqAt.notIn_tupleAt _ hsq (fun y hy=>(hany.1 y hy)) (bl I (by rw [hany.2]; exact q))
  ·obtain ⟨a,o,rfl,g,q⟩:=in_dict wk rd re hD
   cases (show u=Value.ref a from ry)
   exact d_notIn (by omega) I g rx fun s' I'=>bl I' (by simpa using q)
end
end DW
end
section
set_option maxHeartbeats 2000000
namespace DW
open PySem PySem.Spec PyProof.Rows L2
section
variable {X:Cx} {pins:List (Addr×Obj)} {σ:L2.St} {H:Hp} {s:Shared} {θ:List Addr} {μ:Mem}
end
end DW
end
section
namespace DW
open PySem PySem.Spec PyProof.Rows L2
section
variable {X:Cx}
end
end DW
end
section
namespace DW
open PySem PySem.Spec PyProof.Rows L2
section
variable {X:Cx}
end
end DW
end
section
namespace DW
open PySem PySem.Spec PyProof.Rows L2
section
variable {X:Cx}
theorem Zbd {K:PySem.W.Frag} {H:Hp} {θ:List Addr} {μ:Mem} {d:D} {x:V} {b:Bool} (wk:WOk K H θ μ) (r:Rp K H θ μ d x) (h:truth μ d=some b):TruV K x H b:=by
 cases d with
 | non=>cases Yv r; simp only [truth,Option.some.injEq] at h; exact h.symm
 | bl c=>cases Vh r; simp only [truth,Option.some.injEq] at h; exact h.symm
 | int i=>cases Zb r; simp only [truth,Option.some.injEq] at h; exact h.symm
 | str y =>
  obtain ⟨rfl,hy⟩:=Vc r
  simp only [truth,lenOf,Option.map_some,Option.some.injEq] at h
  refine ⟨by simpa [Str.length] using hy,?_⟩
  rw [<- h]
  simp [Str.length]
  cases y <;> simp <;> omega
 | fdc ks ds=>simp [truth,lenOf,Wb] at h
 | dic ks ds =>
  obtain ⟨a,kvs,rfl,h1,_,h2,h3⟩:=Xar r
  simp only [truth,Option.some.injEq] at h
  refine .inr (.inr ⟨kvs,h1,?_⟩)
  have:=congrArg List.length h2
  simp at this
  rw [<- h,<- this]
  cases kvs <;> simp
 | tup ds =>
  simp only [truth,lenOf,Wb,Option.map_some,Option.some.injEq] at h
  obtain ⟨a,xs,rfl,hs,rs⟩:=Zi wk r (show Wb μ (.tup ds)=some ds from rfl)
  have e:b = !xs.isEmpty:=by rw [<- h,rs.length]; cases xs <;> simp
  rcases hs with hs | hs
  ·exact .inl ⟨xs,hs,e⟩
  ·exact .inr (.inl ⟨xs,hs,e⟩)
 | lst ds =>
  simp only [truth,lenOf,Wb,Option.map_some,Option.some.injEq] at h
  obtain ⟨a,xs,rfl,hs,rs⟩:=Zi wk r (show Wb μ (.lst ds)=some ds from rfl)
  have e:b = !xs.isEmpty:=by rw [<- h,rs.length]; cases xs <;> simp
  rcases hs with hs | hs
  ·exact .inl ⟨xs,hs,e⟩
  ·exact .inr (.inl ⟨xs,hs,e⟩)
 | ro ds =>
  simp only [truth,lenOf,Wb,Option.map_some,Option.some.injEq] at h
  obtain ⟨a,xs,rfl,hs,rs⟩:=Zi wk r (show Wb μ (.ro ds)=some ds from rfl)
  have e:b = !xs.isEmpty:=by rw [<- h,rs.length]; cases xs <;> simp
  rcases hs with hs | hs
  ·exact .inl ⟨xs,hs,e⟩
  ·exact .inr (.inl ⟨xs,hs,e⟩)
 | loc n =>
  simp only [truth,lenOf] at h
  cases q:Wb μ (.loc n) with
  | none=>rw [q] at h; cases h
  | some ds =>
   rw [q] at h
   simp only [Option.map_some,Option.some.injEq] at h
   obtain ⟨a,xs,rfl,hs,rs⟩:=Zi wk r q
   have e:b = !xs.isEmpty:=by rw [<- h,rs.length]; cases xs <;> simp
   rcases hs with hs | hs
   ·exact .inl ⟨xs,hs,e⟩
   ·exact .inr (.inl ⟨xs,hs,e⟩)
theorem Wu {a:Expr} {wa:WE} (ha:PE X a (LE X.K wa)) (he:∀ whole,isTrue a X.env whole=(do let v <- whole; standAt a.pos; holding [v] (truthy v))) :
  PT X a (LT X.K fun ρ μ Q=>wa ρ μ fun d μ1=>wTru d μ1 Q):=PT.wk (Wax ha he) fun σ H Q h=>by
 obtain ⟨ρ,θ,μ,Qd,s,h,f⟩:=h
 refine ⟨ρ,θ,μ,_,s,h,fun d v H1 θ1 μ1 w1 g1 r1 h1=>?_⟩
 unfold wTru at h1
 split at h1
 ·rename_i b e
  exact ⟨b,Zbd w1 r1 e,f b H1 θ1 μ1 w1 g1 h1⟩
 ·exact h1.elim
theorem kit_tab (K:PySem.W.Frag):∀ a∈["NoneType","bool","int","str","tuple","list","dict"],∀ b∈["int","bool","str","tuple","list","dict"],PySem.W.kitOne K (.type a) (.type b)=some (isTy a b):=by
 intro a ha b hb
 simp only [List.mem_cons,List.not_mem_nil,or_false] at ha hb
 rcases ha with rfl | rfl | rfl | rfl | rfl | rfl | rfl <;> rcases hb with rfl | rfl | rfl | rfl | rfl | rfl <;> first | rfl | decide
theorem Wbb {K:PySem.W.Frag} {H:Hp} {θ:List Addr} {μ:Mem} {d:D} {x:V} {t:String} (wk:WOk K H θ μ) (r:Rp K H θ μ d x) (h:tyOf μ d=some t):TyOf K H x (.type t)/\t∈["NoneType","bool","int","str","tuple","list","dict"]:=by
 cases d with
 | non=>cases Yv r; cases h; exact ⟨.non,by simp⟩
 | bl c=>cases Vh r; cases h; exact ⟨.bl _,by simp⟩
 | int i=>cases Zb r; cases h; exact ⟨.int _,by simp⟩
 | str y=>cases (Vc r).1; cases h; exact ⟨.str _,by simp⟩
 | dic ks ds=>obtain ⟨a,kvs,rfl,h1,_⟩:=Xar r; cases h; exact ⟨.dK h1,by simp⟩
 | fdc ks ds=>cases h
 | tup ds=>obtain ⟨a,kvs,rfl,h1,_⟩:=Zf r; cases h; exact ⟨.tup h1,by simp⟩
 | lst ds=>obtain ⟨a,kvs,rfl,h1,_⟩:=Wj r; cases h; exact ⟨.lst h1,by simp⟩
 | ro ds=>cases h
 | loc n =>
  obtain ⟨a,rfl,h1⟩:=Ye r
  simp only [tyOf] at h
  split at h
  ·rename_i es hn
   cases h
   obtain ⟨xs,h2,_⟩:=wk.list hn h1
   exact ⟨.lst h2,by simp⟩
  ·rename_i ks es hn
   cases h
   obtain ⟨kvs,h2,_⟩:=wk.cell n _ a hn h1
   exact ⟨.dK h2,by simp⟩
  ·cases h
theorem boot_tys:∀ b∈["int","bool","str","tuple","list","dict"],bootBuiltins (Str.ofString b)=some (.type b)/\Str.ofString b≠"__name__"/\(Str.ofString b == ("__debug__" : Str))=false:=by
 intro b hb
 simp only [List.mem_cons,List.not_mem_nil,or_false] at hb
 rcases hb with rfl | rfl | rfl | rfl | rfl | rfl <;> exact ⟨by decide +kernel,by decide +kernel,by decide +kernel⟩
theorem Zr:bootBuiltins "isinstance" = some (.builtin "isinstance"):=by decide +kernel
theorem Yat:CallR X (.builtin "isinstance") (fun xs H Q=>∃ x t c,xs=[x,.ty c]/\TyOf X.K H x (.type t)/\t∈["NoneType","bool","int","str","tuple","list","dict"]/\c∈["int","bool","str","tuple","list","dict"]/\Q (.bl (isTy t c)) H):=by
 intro pins s σ H xs us Q I r h
 obtain ⟨x,t,c,rfl,ty,ht,hc,q⟩:=h
 obtain ⟨u,w',rfl,rx,ry⟩:=vals2 r
 cases ry
 exact Zbp I rx ty (kit_tab X.K t ht c hc) fun tk=>⟨.bl _,H,I.tok tk,rfl,q⟩
theorem Yb7 {a:Expr} {wa:WE} {t:String} {y z:Str} {p p2 pos:Pos} (ha:PE X a (LE X.K wa)) (ey:y=Str.ofString "isinstance") (ht:t∈["int","bool","str","tuple","list","dict"]) (ez:z=Str.ofString t) (g1:Gl X y) (g2:Gl X z) (m1:X.mg y=none) (m2:X.mg z=none)
  (hs:starEach [a,.Name z p2] X.env=(false,eval a X.env) :: starEach [.Name z p2] X.env) :
  PE X (.Call (.Name y p) [a,.Name z p2] [] pos) (LE X.K fun ρ μ Q=>wa ρ μ fun d μ1=>Yn t d μ1 Q):=by
 subst ey ez
 obtain ⟨b1,b2,b3⟩:=boot_tys t ht
 have hz:PE X (.Name (Str.ofString t) p2) (tC (.ty t)):=Wap g2 m2 b1 rfl b2 b3
 refine PE.wk (Wi (x:=Str.ofString "isinstance") Yat g1 m1 Zr (Zg ha (Zg hz Vr) hs) (by decide +kernel) (by decide +kernel) hs rfl) fun σ H Q h=>?_
 obtain ⟨ρ,θ,μ,Qd,s,h,f⟩:=h
 refine ⟨ρ,θ,μ,_,s,h,fun d v H1 θ1 μ1 w1 g1 r1 h1=>?_⟩
 unfold Yn at h1
 split at h1
 ·rename_i ty e
  obtain ⟨k1,k2⟩:=Wbb w1 r1 e
  exact ⟨v,ty,t,rfl,k1,k2,ht,f _ _ H1 θ1 μ1 w1 g1 Vl h1⟩
 ·exact h1.elim
theorem Wbo (n:Nat) (i:Int):ixD n i=ixN n i:=rfl
theorem reps_at {K:PySem.W.Frag} {H:Hp} {θ:List Addr} {μ:Mem} {ds:List D} {xs:List V} {i:Int} {d:D} (r:Rps K H θ μ ds xs) (h:(ixD ds.length i).bind (ds[·]?)=some d):∃ v,atI xs i=some v/\Rp K H θ μ d v:=by
 rw [r.length,Wbo] at h
 cases q:ixN xs.length i with
 | none=>rw [q] at h; cases h
 | some j =>
  rw [q] at h
  obtain ⟨v,e1,e2⟩:=r.get (i:=j) h
  exact ⟨v,by unfold atI; rw [q]; exact e1,e2⟩
theorem idx_ok:IxR X (low2 X.K wIdx):=by
 intro value slice pins s σ H x y v u Q I rx ry h hs
 obtain ⟨d,e,θ,μ,Qd,wk,rd,re,hw,f⟩:=h
 unfold wIdx at hw
 split at hw
 ·rename_i z i
  cases Zb re
  obtain ⟨rfl,hz⟩:=Vc rd
  split at hw
  ·rename_i c hc
   refine ix_str value slice pins s σ H _ _ v u Q I rx ry ⟨_,i,c,rfl,rfl,by simpa [Str.length] using hz,?_,f.at wk (Wr (x:=[c]) (by simp [sizeLine_eq])) hw⟩ hs
   unfold atI
   simpa [Wbo] using hc
  ·exact hw.elim
 ·rename_i x' i hne
  cases Zb re
  split at hw
  ·rename_i ds hq
   obtain ⟨a,xs,rfl,hx,r⟩:=Zi wk rd hq
   split at hw
   ·rename_i d' hd
    obtain ⟨w',e1,e2⟩:=reps_at r hd
    rcases hx with hx | hx
    ·exact ix_list value slice pins s σ H _ _ v u Q I rx ry ⟨a,xs,i,w',rfl,rfl,hx,e1,f.at wk e2 hw⟩ hs
    ·exact ix_tup value slice pins s σ H _ _ v u Q I rx ry ⟨a,xs,i,w',rfl,rfl,hx,e1,f.at wk e2 hw⟩ hs
   ·exact hw.elim
  ·exact hw.elim
 ·exact hw.elim
theorem Wn (n d:Nat) (o:Option Int):sIxD n d o=HT.sIx n d o:=by
 cases o with
 | none=>rfl
 | some v=>first | rfl | (simp only [sIxD,HT.sIx]; done) | (simp only [sIxD,HT.sIx]; split <;> omega)
noncomputable def lowSl (K:PySem.W.Frag) (m:Bool):V->Option Int->Option Int->Hp->VK->Prop:=fun x lo hi H Q=>∃ d θ μ Qd,WOk K H θ μ/\Rp K H θ μ d x/\wSlc m d lo hi μ Qd/\Fin K H θ μ Qd Q
theorem Wbc {prog:Program} {w:World} {A:Around} {E:Value->Shared->Prop} {s:Shared} {t sl:Addr} {its:Array Value} {vl vu:Value} {lo hi:Option Int} {Q:Value->Shared->Prop}
  (ht:IsTup s.heap t its) (hs:s.heap.IsSliceOf sl vl vu .none) (pl:IsPart vl lo) (pu:IsPart vu hi) (h0:HT.sIx its.size 0 lo=0) (h1:HT.sIx its.size its.size hi=its.size) (h:Q (.ref t) s) :
  wpAny (model prog w) A (getItem (.ref t) (.ref sl)) Q E s:=by
 have ts:s.TypeIs (.ref sl) "slice":=by
  obtain ⟨os,a,b,_⟩:=id hs
  exact ⟨os,a,b⟩
 unfold getItem
 (try with_reducible refine wpAny_holding ?_)
 (first | refine wpAny_bind (wpAny_pure ?_) | skip)
 refine wpAny_bind
  (wpAny_sequenceKey ht.typeIs (by decide) ?_)
 refine wpAny_bind (wpAny_callSpecial?_slot
  (name:=Str.ofString "__getitem__") ht.typeIs
  PyProof.Rows.slot_tuple_getitem (wpAny_call_entry
   PyProof.Rows.slot_tuple_getitem ht.typeIs PyProof.Rows.entry_tuple_getitem ?_ (PyProof.Rows.args_tuple_getitem _ _)))
 show wpAny _ _ (Builtin.Tuple.tupleItemsOf _ >>= _) _ _ s
 refine wpAny_bind (PyProof.Rows.tupleItemsOf_ ht
  (wpAny_bind (wpAny_typeOf ts ?_)))
 rw [if_pos (by decide)]
 refine wpAny_bind (HT.sliceApplied_gen hs pl pu ?_)
 rw [h0,h1]
 show wpAny _ _ (if ((((0:Nat):Int) == 0 && (1:Int) == 1 && (its.size - 0) == its.size)=true) then _ else _) _ _ s
 rw [if_pos (by simp)]
 first
  | exact wpAny_bind (wpAny_bind (m:=Builtin.Tuple.tupleIsExact _) (wpAny_bind (wpAny_typeOf ht.typeIs (wpAny_pure (wpAny_bind (wpAny_rule (wpAny_bind (wpAny_pure ⟨_,rfl,wpAny_pure h⟩))))))))
  | exact wpAny_bind (m:=Builtin.Tuple.tupleIsExact _) (wpAny_bind (wpAny_typeOf ht.typeIs (wpAny_pure (by
    show wpAny _ _ (if ((Value.type "tuple" == Value.type "tuple")=true) then _ else _) _ _ s
    rw [if_pos (by decide)]
    first
     | exact wpAny_bind (wpAny_rule (wpAny_pure ⟨_,rfl,wpAny_pure h⟩))
     | exact wpAny_bind (wpAny_rule (wpAny_bind (wpAny_pure (wpAny_pure ⟨_,rfl,wpAny_pure h⟩))))
     | exact wpAny_bind (wpAny_rule (wpAny_bind (wpAny_pure ⟨_,rfl,wpAny_pure h⟩)))))))
theorem part_of {v:Value} {o:Option Int} (h:IsPart v o):∃ l:Option (Int×Tok),partValue l=v/\l.map (·.1)=o:=by
 cases h with
 | none=>exact ⟨none,rfl,rfl⟩
 | int i t=>exact ⟨some (i,t),rfl,rfl⟩
theorem Zbe {z:List Nat} {lo hi:Option Int} (h1:∀ i,lo=some i->0<=i) (h2:∀ i,hi=some i->0<=i) :
  Builtin.Str.strSliceIndices lo hi 1 z.length=Builtin.Str.strSliceIndices (some ((sIxD z.length 0 lo:Nat):Int)) (some ((sIxD z.length z.length hi:Nat):Int)) 1 z.length:=by
 have e1:∀ (d:Nat) (i:Int),0<=i->((sIxD z.length d (some i):Nat):Int)=min i z.length:=fun d i a=>by unfold sIxD; simp only [show ¬ i < 0 by omega,if_false]; omega
 have c0:((sIxD z.length 0 none:Nat):Int)=0:=rfl
 have c1:((sIxD z.length z.length none:Nat):Int)=z.length:=rfl
 have k0:∀ hi,Builtin.Str.strSliceIndices none hi 1 z.length=Builtin.Str.strSliceIndices (some 0) hi 1 z.length:=fun hi=>by
  unfold Builtin.Str.strSliceIndices
  have:max (0:Int) (min 0 (z.length:Int))=0:=by omega
  simp [this]
 have k1:∀ lo,Builtin.Str.strSliceIndices lo none 1 z.length=Builtin.Str.strSliceIndices lo (some (z.length:Int)) 1 z.length:=fun lo=>by
  unfold Builtin.Str.strSliceIndices
  have h:¬ ((z.length:Int) < 0):=by omega
  have:max (0:Int) (min (z.length:Int) (z.length:Int))=z.length:=by omega
  simp [h,this]
 have k2:∀ (i:Int) hi,0<=i->Builtin.Str.strSliceIndices (some i) hi 1 z.length=Builtin.Str.strSliceIndices (some (min i z.length)) hi 1 z.length:=fun i hi a=>by
  unfold Builtin.Str.strSliceIndices
  have h:¬ (i < 0):=by omega
  have h':¬ (min i (z.length:Int) < 0):=by omega
  have hm:min (min i (z.length:Int)) (z.length:Int)=min i (z.length:Int):=by omega
  simp [h,h',hm]
 have k3:∀ (i:Int) lo,0<=i->Builtin.Str.strSliceIndices lo (some i) 1 z.length=Builtin.Str.strSliceIndices lo (some (min i z.length)) 1 z.length:=fun i lo a=>by
  unfold Builtin.Str.strSliceIndices
  have h:¬ (i < 0):=by omega
  have h':¬ (min i (z.length:Int) < 0):=by omega
  have hm:min (min i (z.length:Int)) (z.length:Int)=min i (z.length:Int):=by omega
  simp [h,h',hm]
 cases lo with
 | none =>
  cases hi with
  | none=>rw [c0,c1,k0,k1]
  | some j=>rw [c0,e1 _ j (h2 j rfl),k0,k3 j _ (h2 j rfl)]
 | some i =>
  rw [e1 _ i (h1 i rfl),k2 i _ (h1 i rfl)]
  cases hi with
  | none=>rw [c1,k1]
  | some j=>rw [e1 _ j (h2 j rfl),k3 j _ (h2 j rfl)]
theorem slc_ok (m:Bool):SlR X (lowSl X.K m):=by
 intro pins s σ H x v vl vu lo hi sl Q I rx hs pl pu h
 obtain ⟨d,θ,μ,Qd,wk,rd,hw,f⟩:=h
 have go:∀ {ds:List D} {a:Addr} {xs:List V},x = .ref a->SqL X.K H a xs->Rps X.K H θ μ ds xs->newL m (cutD ds lo hi) μ Qd->_:=fun {ds a xs} ex hx r hn =>
  sl_list pins s σ H x v vl vu lo hi sl Q I rx hs pl pu ⟨a,xs,ex,hx,fun p hp=>Y0 wk f (by
   have:cutD ds lo hi=(ds.drop (HT.sIx ds.length 0 lo)).take (HT.sIx ds.length ds.length hi - HT.sIx ds.length 0 lo):=by unfold cutD; rw [Wn,Wn]
   rw [this,r.length]
   exact (r.drop _).take _) hn hp⟩
 cases d with
 | lst ds=>obtain ⟨a,xs,rfl,h1,_,r⟩:=Wj rd; exact go rfl (.of h1) r hw
 | str z =>
  obtain ⟨rfl,hz⟩:=Vc rd
  obtain ⟨t,rfl⟩:=rx
  obtain ⟨⟨h1,h2,h3⟩,hq⟩:=hw
  obtain ⟨l,rfl,el⟩:=part_of pl
  obtain ⟨u,rfl,eu⟩:=part_of pu
  have hb:sIxD z.length z.length hi<=z.length:=by
   cases hi with
   | none=>exact Nat.le_refl _
   | some j=>unfold sIxD; simp only [show ¬ j < 0 by have:=h2 j rfl; omega,if_false]; omega
  have hpk:slicePicked ⟨z.toArray⟩ l u none=Builtin.Str.strSliceIndices (some ((sIxD z.length 0 lo:Nat):Int)) (some ((sIxD z.length z.length hi:Nat):Int)) 1 z.length:=by
   unfold slicePicked
   rw [el,eu]
   have:=Zbe (z:=z) h1 h2
   simpa [Str.length] using this
  have hpf:(slicePicked ⟨z.toArray⟩ l u none).filterMap ((⟨z.toArray⟩:Str).cps[·]?)=cutD z lo hi:=by
   rw [hpk]
   have:=StrLaws.sliced_plain ⟨z.toArray⟩ h3 (by simpa [Str.length] using hb)
   simpa [Str.length,cutD] using this
  refine ⟨"str",_,PyProof.Rows.slot_str_getitem.lookup,typeIs_str s _ t,wpAny_getItem_str_slice (l:=l) (u:=u) (st:=none) (by obtain ⟨o,a,b,c⟩:=hs; exact ⟨o,a,b,c⟩) rfl ?_⟩
  have hcl:(cutD z lo hi).length<=sizeLine:=by
   have:(cutD z lo hi).length<=z.length:=by unfold cutD; simp; omega
   omega
  unfold sliceMade
  split
  ·rename_i hw
   have:cutD z lo hi=z:=by
    have hlen:(slicePicked ⟨z.toArray⟩ l u none).length=z.length:=by simpa [Str.length] using hw
    rw [hpk,StrLaws.strSliceIndices_plain h3 hb] at hlen
    simp at hlen
    unfold cutD
    rw [show sIxD z.length 0 lo=0 by omega,show sIxD z.length z.length hi=z.length by omega]
    simp
   rw [this] at hq
   exact ⟨.str _,H,I,⟨t,rfl⟩,f.at wk (Wr hz) hq⟩
  ·rw [hpf]
   exact ⟨by simpa [Str.length] using hcl,.str _,H,I.tok _,⟨_,rfl⟩,f.at wk (Wr hcl) hq⟩
 | tup ds =>
  obtain ⟨a,xs,rfl,h1,_,r⟩:=Zf rd
  have hl:=r.length
  have hq:Qd (.tup (cutD ds lo hi)) μ:=hw
  by_cases hn:sIxD ds.length 0 lo=0/\sIxD ds.length ds.length hi=ds.length
  ·cases rx
   obtain ⟨its,ri,ht,hz⟩:=I.tuple (SqT.of h1)
   have hlen:its.toArray.size=ds.length:=by rw [List.size_toArray,<- ri.length,hl]
   have ec:cutD ds lo hi=ds:=by
    unfold cutD
    rw [hn.1,hn.2]
    simp
   rw [ec] at hq
   exact ⟨"tuple",_,PyProof.Rows.slot_tuple_getitem.lookup,ht.typeIs,Wbc ht hs pl pu (by rw [hlen,<- Wn]; exact hn.1) (by rw [hlen,<- Wn]; exact hn.2) ⟨.ref a,H,I,rfl,f.at wk rd hq⟩⟩
  refine sl_tup pins s σ H _ v vl vu lo hi sl Q I rx hs pl pu ⟨a,xs,rfl,.of h1,?_,fun p hp=>?_⟩
  ·rw [Wn,Wn,hl] at hn; exact hn
  ·refine Vz wk f ?_ hq hp
   have:cutD ds lo hi=(ds.drop (HT.sIx ds.length 0 lo)).take (HT.sIx ds.length ds.length hi - HT.sIx ds.length 0 lo):=by unfold cutD; rw [Wn,Wn]
   rw [this,hl]
   exact (r.drop _).take _
 | loc n =>
  obtain ⟨a,rfl,h1⟩:=Ye rd
  simp only [wSlc] at hw
  split at hw
  ·rename_i ds hn
   obtain ⟨xs,h2,r⟩:=wk.list hn h1
   exact go rfl (.of h2) r hw
  ·exact hw.elim
 | _=>exact hw.elim
theorem Zac:PSet X (fun o i v H Q=>∃ x y z θ μ k,WOk X.K H θ μ/\Rp X.K H θ μ x o/\Rp X.K H θ μ y i/\Rp X.K H θ μ z v/\Zn x y z μ k/\∀ H' μ',WOk X.K H' θ μ'->Grow H θ μ H' θ μ'->k μ'->Q H'):=by
 intro pins s σ H o i v ov iv u Q I ro ri rv h
 obtain ⟨x,y,z,θ,μ,k,wk,rx,ry,rz,hw,f⟩:=h
 unfold Zn at hw
 split at hw
 ·rename_i n j
  obtain ⟨a,rfl,ha⟩:=Ye rx
  cases Zb ry
  split at hw
  ·rename_i xs hn
   split at hw
   ·rename_i p hp
    obtain ⟨vs,h2,r⟩:=wk.list hn ha
    have g:Grow H θ μ (upd H a (.lst (vs.set p v))) θ (μ.set n (.lst (xs.set p z))):=Grow.write hn ha (by simp) (by simp)
    refine set_list pins s σ H _ _ v ov iv u Q I ro ri rv ⟨a,vs,j,p,rfl,rfl,h2,by rw [<- Wbo,<- r.length]; exact hp,?_⟩
    exact f _ _ (wk.write (c':=.lst (xs.set p z)) hn ha (by simp) (by simp) (show CellOk X.K _ _ _ a (.lst (xs.set p z)) from ⟨_,Yc,(g.reps r).set (g.rep rz) p⟩)) g hw
   ·exact hw.elim
  ·exact hw.elim
 ·exact hw.elim
theorem Zaf {m:String} {x:V} {d:D} {ds:List D} {H:Hp} {θ:List Addr} {μ:Mem} {Qd:QD} (wk:WOk X.K H θ μ) (rd:Rp X.K H θ μ d x) (hw:Zx m d ds μ Qd) :
  ∃ n a xs ys,d = .loc n/\x = .ref a/\θ[n]? = some a/\μ[n]? = some (.lst xs)/\H a=some (.lst ys)/\Rps X.K H θ μ xs ys/\Zq m n xs ds μ Qd:=by
 cases d with
 | loc n =>
  obtain ⟨a,rfl,ha⟩:=Ye rd
  simp only [Zx] at hw
  split at hw
  ·rename_i xs hn
   obtain ⟨ys,h2,r⟩:=wk.list hn ha
   exact ⟨n,a,xs,ys,rfl,rfl,ha,hn,h2,r,hw⟩
  ·exact hw.elim
 | _=>exact hw.elim
theorem Zbs {H:Hp} {θ:List Addr} {μ:Mem} {Qd:QD} {Q:VK} {n:Nat} {a:Addr} {xs xs':List D} {ys':List V} {e:D} {v:V} (wk:WOk X.K H θ μ) (f:Fin X.K H θ μ Qd Q) (ha:θ[n]? = some a) (hn:μ[n]? = some (.lst xs)) (r:Rps X.K H θ μ xs' ys')
  (re:Rp X.K H θ μ e v) (h:Qd e (μ.set n (.lst xs'))):Q v (upd H a (.lst ys')):=by
 have g:Grow H θ μ (upd H a (.lst ys')) θ (μ.set n (.lst xs')):=Grow.write hn ha (by simp) (by simp)
 exact f e v _ _ _ (wk.write (c':=.lst xs') hn ha (by simp) (by simp) (show CellOk X.K _ _ _ a (.lst xs') from ⟨_,Yc,g.reps r⟩)) g (g.rep re) h
theorem Vaq:MtR X "list.append" (lowM X.K (Zx "append")):=by
 intro pins s σ H x vs v us Q I rx rv h
 obtain ⟨d,ds,θ,μ,Qd,wk,rd,rs,hw,f⟩:=h
 obtain ⟨n,a,xs,ys,rfl,rfl,ha,hn,h2,r,hw⟩:=Zaf wk rd hw
 match ds,hw with
 | [e],hw =>
  obtain ⟨w',vr,rfl,r1,r2⟩:=rs.cons_inv
  cases r2.nil_inv
  have hw:xs.length < lim/\Qd .non (μ.set n (.lst (xs ++ [e]))):=hw
  exact Wbk pins s σ H _ _ v us Q I rx rv ⟨a,ys,w',rfl,rfl,h2,by rw [<- r.length,<- Ys]; exact hw.1,Zbs wk f ha hn (r.append (Reps.one r1)) W6 hw.2⟩
 | [],hw=>simp [Zq] at hw
 | e1 :: e2 :: er,hw=>cases e1 <;> cases er <;> simp [Zq] at hw
theorem Wah:MtR X "list.reverse" (lowM X.K (Zx "reverse")):=by
 intro pins s σ H x vs v us Q I rx rv h
 obtain ⟨d,ds,θ,μ,Qd,wk,rd,rs,hw,f⟩:=h
 obtain ⟨n,a,xs,ys,rfl,rfl,ha,hn,h2,r,hw⟩:=Zaf wk rd hw
 match ds,hw with
 | [],hw =>
  cases rs.nil_inv
  exact Va6 pins s σ H _ _ v us Q I rx rv ⟨a,ys,rfl,rfl,h2,Zbs wk f ha hn r.reverse W6 hw⟩
 | [e],hw=>simp [Zq] at hw
 | e1 :: e2 :: er,hw=>cases e1 <;> cases er <;> simp [Zq] at hw
theorem wl_inv {H:Hp} {θ:List Addr} {μ:Mem} {d:D} {v:V} {ds:List D} (wk:WOk X.K H θ μ) (r:Rp X.K H θ μ d v) (h:wlOf μ d=some ds):∃ a xs,v = .ref a/\H a=some (.lst xs)/\Rps X.K H θ μ ds xs:=by
 cases d with
 | lst l=>simp only [wlOf,Option.some.injEq] at h; subst h; obtain ⟨b,zs,e1,e2,_,e3⟩:=Wj r; exact ⟨b,zs,e1,e2,e3⟩
 | loc k =>
  obtain ⟨b,rfl,hb⟩:=Ye r
  simp only [wlOf] at h
  split at h
  ·rename_i l hl
   cases h
   obtain ⟨zs,e1,e2⟩:=wk.list hl hb
   exact ⟨b,zs,rfl,e1,e2⟩
  ·cases h
 | _=>simp [wlOf] at h
theorem cat_ok (m:Bool):OpR X (binaryOp .Add) (low2 X.K (wCat m)):=by
 intro pins s σ H x y v u Q I rx ry h
 obtain ⟨d,e,θ,μ,Qd,wk,rd,re,hw,f⟩:=h
 unfold wCat at hw
 split at hw
 ·rename_i as ha
  split at hw
  ·rename_i bs hb
   obtain ⟨a,xs,rfl,h1,r1⟩:=wl_inv wk rd ha
   obtain ⟨b,ys,rfl,h2,r2⟩:=wl_inv wk re hb
   have l1:=r1.length
   have l2:=r2.length
   exact op_cat pins s σ H _ _ v u Q I rx ry ⟨a,b,xs,ys,rfl,rfl,h1,h2,by rw [<- l1,<- l2,<- Ys]; exact hw.1,fun p hp=>Y0 wk f (r1.append r2) hw.2 hp⟩
  ·exact hw.elim
 ·exact hw.elim
end
end DW
end
section
namespace DW
open PySem PySem.Spec PyProof.Rows L2
section
variable {X:Cx}
theorem Xp {K:PySem.W.Frag} {H:Hp} {θ:List Addr} {μ:Mem} {ds:List D} {d:D} {v:V} (wk:WOk K H θ μ) (r:Rp K H θ μ d v) (h:Zv μ d=some ds):∃ a xs,v = .ref a/\SqL K H a xs/\Rps K H θ μ ds xs:=by
 cases d with
 | lst es=>simp only [Zv,Wb,Option.some.injEq] at h; subst h; obtain ⟨a,xs,e,h1,_,h3⟩:=Wj r; exact ⟨a,xs,e,.of h1,h3⟩
 | ro es=>simp only [Zv,Wb,Option.some.injEq] at h; subst h; obtain ⟨a,xs,e,h1,h3⟩:=Va0 r; exact ⟨a,xs,e,Xa3 h1,h3⟩
 | loc n =>
  obtain ⟨a,e,h1⟩:=Ye r
  simp only [Zv,Wb] at h
  split at h
  ·rename_i es hn
   simp only [Option.some.injEq] at h; subst h
   obtain ⟨xs,h2,h3⟩:=wk.list hn h1
   exact ⟨a,xs,e,.of h2,h3⟩
  ·cases h
 | _=>simp [Zv,Wb] at h
theorem Yw {K:PySem.W.Frag} {H:Hp} {θ:List Addr} {μ:Mem}:∀ {ds:List D} {xs:List V} {ns:List Int},Rps K H θ μ ds xs->Vq ds=some ns->xs=ns.map V.int
 | [],xs,ns,r,h=>by
  cases r.nil_inv
  simp only [Vq,Option.some.injEq] at h
  subst h; rfl
 | d :: ds,xs,ns,r,h=>by
  obtain ⟨v,vr,rfl,h1,h2⟩:=r.cons_inv
  cases d with
  | int i =>
   simp only [Vq] at h
   cases q:Vq ds with
   | none=>rw [q] at h; cases h
   | some ms =>
    rw [q] at h
    simp only [Option.map_some,Option.some.injEq] at h
    subst h
    cases Zb h1
    rw [Yw h2 q]; rfl
  | _=>simp [Vq] at h
theorem Xl:∀ {ns:List Int} {its:List Value},Vals (ns.map V.int) its->∃ xs:Array (Int×Tok),its.toArray=intItems xs/\xs.toList.map (·.1)=ns
 | [],its,h=>by cases h; exact ⟨#[],by simp [intItems],rfl⟩
 | n :: ns,its,h=>by
  cases h with
  | cons r rr =>
   obtain ⟨t,rfl⟩:=r
   obtain ⟨xs,e1,e2⟩:=Xl rr
   refine ⟨((n,t) :: xs.toList).toArray,?_,by simp [e2]⟩
   have e1':=congrArg Array.toList e1
   simp only [intItems,Array.toList_map] at e1'
   apply Array.toList_inj.mp
   simp only [intItems,Array.toList_map]
   simpa using e1'
theorem min_arg (xs:Array (Int×Tok)) (n:Int) (ns:List Int) (h:xs.toList.map (·.1)=n :: ns):numAt xs (argBest (fun i j=>decide (numAt xs i < numAt xs j)) (xs.size - 1))=ns.foldl min n:=by
 have key:∀ k,k < (n :: ns).length->numAt xs (argBest (fun i j=>decide (numAt xs i < numAt xs j)) k)=(ns.take k).foldl min n:=by
  intro k
  have at_:∀ i,numAt xs i=((n :: ns)[i]?).getD 0:=fun i=>by
   rw [<- h]; simp [numAt]
  induction k with
  | zero=>intro _; simp [argBest,at_]
  | succ k ih =>
   intro hk
   have ih':=ih (by omega)
   have hk':k < ns.length:=by simpa using hk
   have e:ns.take (k + 1)=ns.take k ++ [ns[k]]:=by rw [List.take_succ_eq_append_getElem hk']
   rw [e,List.foldl_append]
   simp only [List.foldl_cons,List.foldl_nil]
   rw [<- ih']
   simp only [argBest]
   have a1:numAt xs (k + 1)=ns[k]:=by rw [at_]; simp [hk']
   split
   ·rename_i hgt
    have hgt:=of_decide_eq_true hgt
    rw [a1] at hgt ⊢
    omega
   ·rename_i hgt
    have hgt:¬ (numAt xs (k + 1) < _):=fun z=>hgt (decide_eq_true z)
    rw [a1] at hgt
    omega
 have hs:xs.size=(n :: ns).length:=by rw [<- h]; simp
 have:=key (xs.size - 1) (by rw [hs]; simp)
 rw [this,hs,List.take_of_length_le (by simp)]
theorem Wbu (hc:X.calm=true):CallR X (.builtin "min") (fun xs H Q=>∃ p,∃ n:Int,∃ ns:List Int,xs=[.ref p]/\SqL X.K H p ((n :: ns).map V.int)/\Q (.int (ns.foldl min n)) H):=by
 intro pins s σ H xs us Q I r h
 obtain ⟨p,n,ns,rfl,hx,q⟩:=h
 obtain ⟨u,rfl,rx⟩:=vals1 r
 cases rx
 obtain ⟨its,rv,pl,hz⟩:=I.list hx
 obtain ⟨zs,e1,e2⟩:=Xl rv
 have hl:=pl.isList
 rw [e1] at hl
 have hs:zs.size=(n :: ns).length:=by rw [<- e2]; simp
 refine min_intList (I.ok.hd hc) hl (by rw [hs]; simp) fun v h' tk hv hk=>?_
 obtain ⟨t,rfl⟩:=intItems_at hv
 exact ⟨.int _,H,I.kept hk,⟨t,by rw [min_arg zs n ns e2]⟩,q⟩
theorem max_arg (xs:Array (Int×Tok)) (n:Int) (ns:List Int) (h:xs.toList.map (·.1)=n :: ns):numAt xs (argBest (fun i j=>decide (numAt xs i > numAt xs j)) (xs.size - 1))=ns.foldl max n:=by
 have key:∀ k,k < (n :: ns).length->numAt xs (argBest (fun i j=>decide (numAt xs i > numAt xs j)) k)=(ns.take k).foldl max n:=by
  intro k
  have at_:∀ i,numAt xs i=((n :: ns)[i]?).getD 0:=fun i=>by
   rw [<- h]; simp [numAt]
  induction k with
  | zero=>intro _; simp [argBest,at_]
  | succ k ih =>
   intro hk
   have ih':=ih (by omega)
   have hk':k < ns.length:=by simpa using hk
   have e:ns.take (k + 1)=ns.take k ++ [ns[k]]:=by rw [List.take_succ_eq_append_getElem hk']
   rw [e,List.foldl_append]
   simp only [List.foldl_cons,List.foldl_nil]
   rw [<- ih']
   simp only [argBest]
   have a1:numAt xs (k + 1)=ns[k]:=by rw [at_]; simp [hk']
   split
   ·rename_i hgt
    have hgt:=of_decide_eq_true hgt
    rw [a1] at hgt ⊢
    omega
   ·rename_i hgt
    have hgt:¬ (numAt xs (k + 1) > _):=fun z=>hgt (decide_eq_true z)
    rw [a1] at hgt
    omega
 have hs:xs.size=(n :: ns).length:=by rw [<- h]; simp
 have:=key (xs.size - 1) (by rw [hs]; simp)
 rw [this,hs,List.take_of_length_le (by simp)]
theorem Zbv (hc:X.calm=true):CallR X (.builtin "max") (fun xs H Q=>∃ p,∃ n:Int,∃ ns:List Int,xs=[.ref p]/\SqL X.K H p ((n :: ns).map V.int)/\Q (.int (ns.foldl max n)) H):=by
 intro pins s σ H xs us Q I r h
 obtain ⟨p,n,ns,rfl,hx,q⟩:=h
 obtain ⟨u,rfl,rx⟩:=vals1 r
 cases rx
 obtain ⟨its,rv,pl,hz⟩:=I.list hx
 obtain ⟨zs,e1,e2⟩:=Xl rv
 have hl:=pl.isList
 rw [e1] at hl
 have hs:zs.size=(n :: ns).length:=by rw [<- e2]; simp
 refine max_intList (I.ok.hd hc) hl (by rw [hs]; simp) fun v h' tk hv hk=>?_
 obtain ⟨t,rfl⟩:=intItems_at hv
 exact ⟨.int _,H,I.kept hk,⟨t,by rw [max_arg zs n ns e2]⟩,q⟩
end
end DW
end
section
namespace DW
open PySem PySem.Spec PyProof.Rows L2
section
variable {X:Cx}
end
end DW
end
section
namespace DW
open PySem PySem.W PyProof.Rows
noncomputable def krun {α:Type} (lt:Nat->Nat->Bool):KasT α->α
 | .ret a=>a
 | .ask i j k=>krun lt (k (lt i j))
theorem Xj {α β:Type} (lt:Nat->Nat->Bool) (f:α->KasT β):∀ t:KasT α,krun lt (t.bind f)=krun lt (f (krun lt t))
 | .ret a=>rfl
 | .ask i j k=>Xj lt f (k (lt i j))
noncomputable abbrev at' (p:Array Nat) (k:Nat):Nat:=p.getD k 0
theorem Yae (p:Array Nat) (k:Nat):at' p k=p[k]?.getD 0:=by simp [at']
theorem Xam {p:Array Nat} {i j:Nat} (hj:j<=p.size) (k:Nat):at' (kas_rev p i j) k=if i<=k/\k < j then at' p (i + j - 1 - k) else at' p k:=by
 rw [Yae,kas_rev,getElem?_mirror_all hj]
 split <;> rw [Yae]
theorem at_bub {p:Array Nat} {s d:Nat} (hs:s < p.size) (hd:d<=s) (k:Nat):at' (bubble p s d) k=if k=s - d then at' p s else if s - d < k/\k<=s then at' p (k - 1) else at' p k:=by
 rw [Yae,getElem?_bubble hs d hd,Yae,Yae,Yae]
 by_cases h1:k=s - d
 ·rw [if_pos h1,if_pos h1]
 ·rw [if_neg h1,if_neg h1]
  by_cases h2:s - d < k/\k<=s
  ·rw [if_pos h2,if_pos h2]
  ·rw [if_neg h2,if_neg h2]
theorem Wx (p:Array Nat) (i j:Nat):(kas_rev p i j).size=p.size:=mirror_size _ _ _ _
theorem Yi (p:Array Nat) (i j:Nat):(kas_rev p i j).Perm p:=mirror_perm _ _ _ _
section
variable {lt:Nat->Nat->Bool} (hA:∀ a b,lt a b=true->lt b a=false) (hT:∀ a b c,lt b a=false->lt c b=false->lt c a=false)
noncomputable def Up (lt:Nat->Nat->Bool) (p:Array Nat) (m:Nat):Prop:=∀ i,i + 1 < m->lt (at' p (i + 1)) (at' p i)=false
noncomputable def Down (lt:Nat->Nat->Bool) (p:Array Nat) (m:Nat):Prop:=∀ i,i + 1 < m->lt (at' p i) (at' p (i + 1))=false
noncomputable def Tie (lt:Nat->Nat->Bool) (a b:Nat):Prop:=lt a b=false/\lt b a=false
include hT in
theorem Up.le {p:Array Nat} {m:Nat} (h:Up lt p m) (hirr:∀ a,lt a a=false):∀ (d i:Nat),i + d < m->lt (at' p (i + d)) (at' p i)=false
 | 0,i,_=>hirr _
 | d + 1,i,hd=>hT _ _ _ (Up.le h hirr d i (by omega)) (h (i + d) (by omega))
include hA in
theorem Wa0 (a:Nat):lt a a=false:=by
 cases h:lt a a with
 | false=>rfl
 | true=>rw [<- h]; exact hA a a h
include hT in
theorem Tie.trans {a b c:Nat} (h:Tie lt a b) (k:Tie lt b c):Tie lt a c:=⟨hT c b a k.1 h.1,hT a b c h.2 k.2⟩
theorem Tie.symm {a b:Nat} (h:Tie lt a b):Tie lt b a:=⟨h.2,h.1⟩
theorem Yau {p:Array Nat}:∀ (f n:Nat),1<=n->n<=krun lt (kas_asc p f n)/\krun lt (kas_asc p f n)<=n + f/\(∀ i,n<=i->i < krun lt (kas_asc p f n)->lt (at' p i) (at' p (i - 1))=false) /\
  (krun lt (kas_asc p f n) < n + f->lt (at' p (krun lt (kas_asc p f n))) (at' p (krun lt (kas_asc p f n) - 1))=true)
 | 0,n,_=>⟨Nat.le_refl _,Nat.le_refl _,fun i h1 h2=>by simp [kas_asc,krun] at h2; omega,fun h=>by simp [kas_asc,krun] at h⟩
 | f + 1,n,h1=>by
  cases c:lt (at' p n) (at' p (n - 1)) with
  | true =>
   have e:krun lt (kas_asc p (f + 1) n)=n:=by
    show krun lt (if lt (at' p n) (at' p (n - 1))=true then .ret n else kas_asc p f (n + 1))=n
    rw [c]; rfl
   rw [e]
   exact ⟨Nat.le_refl _,by omega,fun i h1 h2=>by omega,fun _=>c⟩
  | false =>
   have e:krun lt (kas_asc p (f + 1) n)=krun lt (kas_asc p f (n + 1)):=by
    show krun lt (if lt (at' p n) (at' p (n - 1))=true then .ret n else kas_asc p f (n + 1))=_
    rw [c]; rfl
   rw [e]
   obtain ⟨a1,a2,a3,a4⟩:=Yau (p:=p) f (n + 1) (by omega)
   refine ⟨by omega,by omega,fun i h2 h3=>?_,fun h=>a4 (by omega)⟩
   by_cases q:i=n
   ·subst q; exact c
   ·exact a3 i (by omega) h3
structure DescOk (lt:Nat->Nat->Bool) (p0:Array Nat) (top:Nat) (r:Array Nat×Nat×Nat):Prop where
 perm:r.1.Perm p0
 size:r.1.size=p0.size
 le:r.2.1<=top
 pos:r.2.2 + 1<=r.2.1
 down:Down lt r.1 r.2.1
 tie:∀ i,r.2.1 - (r.2.2 + 1)<=i->i < r.2.1->Tie lt (at' r.1 i) (at' r.1 (r.2.1 - 1))
include hT in
theorem Xap {p:Array Nat} {n q:Nat} (hn:n<=p.size) (hq:q + 1<=n) (ht:∀ i,n - (q + 1)<=i->i < n->Tie lt (at' p i) (at' p (n - 1))) (hirr:∀ a,lt a a=false) (k:Nat) :
  Tie lt (at' (kas_rev p (n - (q + 1)) n) k) (at' p k):=by
 rw [Xam hn]
 split
 ·rename_i h
  exact Tie.trans hT (ht _ (by omega) (by omega)) (Tie.symm (ht k h.1 h.2))
 ·exact ⟨hirr _,hirr _⟩
include hT in
theorem Down.like {p p':Array Nat} {n:Nat} (h:Down lt p n) (k:∀ i,i < n->Tie lt (at' p' i) (at' p i)):Down lt p' n:=fun i hi =>
 hT _ _ _ (hT _ _ _ (k (i + 1) hi).2 (h i hi)) (k i (by omega)).1
include hA hT in
theorem Zy {p0:Array Nat} {top:Nat} (htop:top<=p0.size):∀ (f:Nat) (p:Array Nat) (n q:Nat),n + f=top->DescOk lt p0 top (p,n,q)->DescOk lt p0 top (krun lt (kas_desc f p n q))
 | 0,p,n,q,_,h=>h
 | f + 1,p,n,q,hn,h=>by
  have hirr:=Wa0 hA
  obtain ⟨h1,h2,h3,h4,h5,h6⟩:=h
  simp only at h1 h2 h3 h4 h5 h6
  have hsz:n<=p.size:=by omega
  cases c:lt (at' p n) (at' p (n - 1)) with
  | true =>
   have e:krun lt (kas_desc (f + 1) p n q)=krun lt (if q > 0 then kas_desc f (kas_rev p (n - (q + 1)) n) (n + 1) 0 else kas_desc f p (n + 1) 0):=by
    show krun lt (if lt (at' p n) (at' p (n - 1))=true then _ else _)=_
    rw [c]; rfl
   rw [e]
   have dn:∀ p':Array Nat,p'.Perm p0->p'.size=p0.size->(∀ i,Tie lt (at' p' i) (at' p i))->at' p' n=at' p n->DescOk lt p0 top (p',n + 1,0):=fun p' q1 q2 q3 q4=>by
    refine ⟨q1,q2,by simp; omega,by simp,fun i hi=>?_,fun i a1 a2=>?_⟩
    ·simp only at hi ⊢
     by_cases z:i + 1 < n
     ·exact Down.like hT h5 (fun i _=>q3 i) i z
     ·have z1:i + 1=n:=by omega
      have z2:i=n - 1:=by omega
      rw [z1,q4,z2]
      exact hT _ _ _ (hA _ _ c) (q3 (n - 1)).1
    ·simp only at a1 a2 ⊢
     have:i=n:=by omega
     subst this
     exact ⟨hirr _,hirr _⟩
   by_cases hq:q > 0
   ·rw [if_pos hq]
    refine Zy htop f _ (n + 1) 0 (by omega) (dn _ ((Yi _ _ _).trans h1) (by rw [Wx]; exact h2) (Xap hT hsz h4 h6 hirr) ?_)
    rw [Xam hsz,if_neg (by omega)]
   ·rw [if_neg hq]
    exact Zy htop f _ (n + 1) 0 (by omega) (dn _ h1 h2 (fun i=>⟨hirr _,hirr _⟩) rfl)
  | false =>
   cases d:lt (at' p (n - 1)) (at' p n) with
   | true =>
    have e:krun lt (kas_desc (f + 1) p n q)=(p,n,q):=by
     show krun lt (if lt (at' p n) (at' p (n - 1))=true then _ else _)=_
     rw [c]
     show krun lt (if lt (at' p (n - 1)) (at' p n)=true then _ else _)=_
     rw [d]; rfl
    rw [e]
    exact ⟨h1,h2,h3,h4,h5,h6⟩
   | false =>
    have e:krun lt (kas_desc (f + 1) p n q)=krun lt (kas_desc f p (n + 1) (q + 1)):=by
     show krun lt (if lt (at' p n) (at' p (n - 1))=true then _ else _)=_
     rw [c]
     show krun lt (if lt (at' p (n - 1)) (at' p n)=true then _ else _)=_
     rw [d]; rfl
    rw [e]
    refine Zy htop f _ (n + 1) (q + 1) (by omega) ⟨h1,h2,by simp; omega,by simp; omega,fun i hi=>?_,fun i a1 a2=>?_⟩
    ·simp only at hi ⊢
     by_cases z:i + 1 < n
     ·exact h5 i z
     ·have z1:i + 1=n:=by omega
      have z2:i=n - 1:=by omega
      rw [z1,z2]; exact d
    ·simp only at a1 a2 ⊢
     by_cases z:i=n
     ·subst z; exact ⟨hirr _,hirr _⟩
     ·exact Tie.trans hT (h6 i (by omega) (by omega)) ⟨d,c⟩
structure CountOk (lt:Nat->Nat->Bool) (p0:Array Nat) (n:Nat) (r:Nat×Array Nat):Prop where
 perm:r.2.Perm p0
 size:r.2.size=p0.size
 le:r.1<=n
 pos:1<=r.1
 up:Up lt r.2 r.1
theorem Waf {p0 p:Array Nat} {n nrem:Nat} (h1:1<=n) (hn:n<=nrem) (hz:nrem<=p0.size) (hp:p.Perm p0) (hs:p.size=p0.size) (hd:Down lt p n):CountOk lt p0 nrem (krun lt (kas_tail3 n nrem p)):=by
 unfold kas_tail3
 rw [Xj]
 obtain ⟨a1,a2,a3,_⟩:=Yau (lt:=lt) (p:=kas_rev p 0 n) (nrem - n) n h1
 refine ⟨(Yi _ _ _).trans hp,by rw [show (krun lt (KasT.ret (krun lt (kas_asc (kas_rev p 0 n) (nrem - n) n),kas_rev p 0 n))).2=kas_rev p 0 n from rfl,Wx]; exact hs,by show krun lt _<=_; omega,by show 1<=krun lt _; omega,fun i hi=>?_⟩
 replace hi:i + 1 < krun lt (kas_asc (kas_rev p 0 n) (nrem - n) n):=hi
 show lt (at' (kas_rev p 0 n) (i + 1)) (at' (kas_rev p 0 n) i)=false
 by_cases z:n<=i + 1
 ·exact a3 (i + 1) z hi
 ·rw [Xam (by omega),Xam (by omega),if_pos (by omega),if_pos (by omega)]
  have:=hd (n - 1 - (i + 1)) (by omega)
  have e1:n - 1 - (i + 1) + 1=0 + n - 1 - i:=by omega
  have e2:n - 1 - (i + 1)=0 + n - 1 - (i + 1):=by omega
  rw [e1,e2] at this
  exact this
include hA hT in
theorem Xw {p0 p:Array Nat} {n nrem:Nat} (hn:n + 1<=nrem) (hz:nrem<=p0.size) (hp:p.Perm p0) (hs:p.size=p0.size) (hd:Down lt p (n + 1)):CountOk lt p0 nrem (krun lt (kas_descPart n nrem p)):=by
 unfold kas_descPart
 rw [Xj]
 have hirr:=Wa0 hA
 have D:=Zy hA hT hz (nrem - (n + 1)) p (n + 1) 0 (by omega) ⟨hp,hs,by simp; omega,by simp,hd,fun i a1 a2=>by
  simp only at a1 a2 ⊢
  have:i=n:=by omega
  subst this; exact ⟨hirr _,hirr _⟩⟩
 generalize krun lt (kas_desc (nrem - (n + 1)) p (n + 1) 0)=r at D
 obtain ⟨p2,m,q⟩:=r
 obtain ⟨h1,h2,h3,h4,h5,h6⟩:=D
 simp only at h1 h2 h3 h4 h5 h6 ⊢
 have hsz:m<=p2.size:=by omega
 by_cases hq:q > 0
 ·rw [if_pos hq]
  exact Waf (by omega) h3 hz ((Yi _ _ _).trans h1) (by rw [Wx]; exact h2) (Down.like hT h5 fun i _=>Xap hT hsz h4 h6 hirr i)
 ·rw [if_neg hq]
  exact Waf (by omega) h3 hz h1 h2 h5
include hA hT in
theorem Wbt {p0:Array Nat} {nrem:Nat} (h1:1<=nrem) (hz:nrem<=p0.size):CountOk lt p0 nrem (krun lt (kas_count nrem p0)):=by
 unfold kas_count
 rw [Xj]
 have hirr:=Wa0 hA
 obtain ⟨a1,a2,a3,a4⟩:=Yau (lt:=lt) (p:=p0) (nrem - 1) 1 (Nat.le_refl _)
 generalize krun lt (kas_asc p0 (nrem - 1) 1)=n at a1 a2 a3 a4
 have up:Up lt p0 n:=fun i hi=>by simpa using a3 (i + 1) (by omega) hi
 by_cases e:(n == nrem)=true
 ·rw [if_pos e]
  exact ⟨.refl _,rfl,by show n<=_; omega,a1,up⟩
 ·rw [if_neg e]
  have e':n≠nrem:=by simpa using e
  have ht:=a4 (by omega)
  by_cases hn:n > 1
  ·rw [if_pos hn]
   cases c:lt (at' p0 0) (at' p0 (n - 1)) with
   | true =>
    show CountOk lt p0 nrem (krun lt (if lt (at' p0 0) (at' p0 (n - 1))=true then _ else _))
    rw [c]
    exact ⟨.refl _,rfl,by show n<=_; omega,a1,up⟩
   | false =>
    show CountOk lt p0 nrem (krun lt (if lt (at' p0 0) (at' p0 (n - 1))=true then _ else _))
    rw [c]
    have hsz:n<=p0.size:=by omega
    have le:=fun d i h=>Up.le hT up hirr d i h
    have tie:∀ i,n - (n - 1 + 1)<=i->i < n->Tie lt (at' p0 i) (at' p0 (n - 1)):=fun i _ hi=>by
     have b1:=le (n - 1 - i) i (by omega)
     have b2:=le i 0 (by omega)
     rw [show i + (n - 1 - i)=n - 1 by omega] at b1
     rw [show 0 + i=i by omega] at b2
     exact ⟨hT _ _ _ c b2,b1⟩
    have r0:=fun i=>Xap hT hsz (q:=n - 1) (by omega) tie hirr i
    rw [show n - (n - 1 + 1)=0 by omega] at r0
    refine Xw hA hT (by omega) hz (Yi _ _ _) (Wx _ _ _) fun i hi=>?_
    by_cases z:i + 1=n
    ·have z2:at' (kas_rev p0 0 n) n=at' p0 n:=by rw [Xam hsz,if_neg (by omega)]
     have z3:i=n - 1:=by omega
     rw [z,z2,z3]
     exact hT _ _ _ (hA _ _ ht) (r0 (n - 1)).1
    ·have t1:=Tie.trans hT (Tie.trans hT (r0 i) (tie i (by omega) (by omega))) (Tie.symm (Tie.trans hT (r0 (i + 1)) (tie (i + 1) (by omega) (by omega))))
     exact t1.1
  ·rw [if_neg hn]
   have n1:n=1:=by omega
   subst n1
   refine Xw hA hT (by omega) hz (.refl _) rfl fun i hi=>?_
   have:i=0:=by omega
   subst this
   exact hA _ _ ht
include hA hT in
theorem Yz {p:Array Nat} {k:Nat} (up:Up lt p k):∀ (f l r:Nat),l<=r->r<=k->r - l<=f->(∀ i,i < l->lt (at' p k) (at' p i)=false)->(∀ i,r<=i->i < k->lt (at' p k) (at' p i)=true) ->
  krun lt (kas_place p k f l r)<=k/\(∀ i,i < krun lt (kas_place p k f l r)->lt (at' p k) (at' p i)=false)/\∀ i,krun lt (kas_place p k f l r)<=i->i < k->lt (at' p k) (at' p i)=true
 | 0,l,r,h1,h2,h3,h4,h5=>by
  have:l=r:=by omega
  subst this
  exact ⟨h2,h4,h5⟩
 | f + 1,l,r,h1,h2,h3,h4,h5=>by
  have hirr:=Wa0 hA
  have le:=fun d i h=>Up.le hT up hirr d i h
  by_cases z:l ≥ r
  ·have:l=r:=by omega
   subst this
   unfold kas_place
   rw [if_pos z]
   exact ⟨h2,h4,h5⟩
  ·have e:krun lt (kas_place p k (f + 1) l r)=krun lt (if lt (at' p k) (at' p ((l + r) / 2))=true then kas_place p k f l ((l + r) / 2) else kas_place p k f ((l + r) / 2 + 1) r):=by
    rw [kas_place,if_neg z]; rfl
   rw [e]
   generalize hm:(l + r) / 2=m
   have m1:l<=m:=by omega
   have m2:m < r:=by omega
   cases c:lt (at' p k) (at' p m) with
   | true =>
    rw [if_pos rfl]
    refine Yz up f l m m1 (by omega) (by omega) h4 fun i b1 b2=>?_
    cases q:lt (at' p k) (at' p i) with
    | true=>rfl
    | false =>
     have b3:=le (i - m) m (by omega)
     rw [show m + (i - m)=i by omega] at b3
     have:=hT _ _ _ b3 q
     rw [c] at this; cases this
   | false =>
    rw [if_neg (by simp)]
    refine Yz up f (m + 1) r (by omega) h2 (by omega) (fun i b1=>?_) h5
    have b3:=le (m - i) i (by omega)
    rw [show i + (m - i)=m by omega] at b3
    exact hT _ _ _ b3 c
include hA hT in
theorem Wbw {p0:Array Nat} {n:Nat} (hn:n<=p0.size):∀ (f:Nat) (p:Array Nat) (k:Nat),k + f=n->p.Perm p0->p.size=p0.size->Up lt p k->(krun lt (kas_bin f p k)).Perm p0/\Up lt (krun lt (kas_bin f p k)) n
 | 0,p,k,h,h1,h2,h3=>by
  have:k=n:=by omega
  subst this
  exact ⟨h1,h3⟩
 | f + 1,p,k,h,h1,h2,h3=>by
  have e:krun lt (kas_bin (f + 1) p k)=krun lt (kas_bin f (bubble p k (k - krun lt (kas_place p k k 0 k))) (k + 1)):=by
   show krun lt (KasT.bind _ _)=_
   rw [Xj]
  rw [e]
  obtain ⟨b1,b2,b3⟩:=Yz hA hT h3 k 0 k (Nat.zero_le _) (Nat.le_refl _) (by omega) (fun i hi=>by omega) (fun i x y=>by omega)
  generalize krun lt (kas_place p k k 0 k)=t at b1 b2 b3
  refine Wbw hn f _ (k + 1) (by omega) ((bubble_perm _ _ _).trans h1) ((bubble_size _ _ _).trans h2) fun i hi=>?_
  have hk:k < p.size:=by omega
  rw [at_bub hk (by omega),at_bub hk (by omega),show k - (k - t)=t by omega]
  by_cases z1:i + 1=t
  ·rw [if_pos z1,if_neg (by omega),if_neg (by omega)]
   exact b2 i (by omega)
  ·rw [if_neg z1]
   by_cases z2:i=t
   ·subst z2
    rw [if_pos rfl,if_pos (by omega)]
    exact hA _ _ (b3 i (Nat.le_refl _) (by omega))
   ·rw [if_neg z2]
    by_cases z3:t < i
    ·rw [if_pos (by omega),if_pos (by omega)]
     have:=h3 (i - 1) (by omega)
     rw [show i - 1 + 1=i by omega] at this
     exact this
    ·rw [if_neg (by omega),if_neg (by omega)]
     exact h3 i (by omega)
include hA hT in
theorem Vb1 {n:Nat} (h1:1<=n):(krun lt (kas_sort n)).Perm (List.toArray (List.range n))/\Up lt (krun lt (kas_sort n)) n:=by
 unfold kas_sort
 rw [Xj]
 have C:=Wbt (lt:=lt) hA hT (p0:=List.toArray (List.range n)) h1 (by simp)
 generalize krun lt (kas_count n (List.toArray (List.range n)))=r at C
 by_cases z:r.1 < n
 ·rw [if_pos z]
  have:max r.1 1=r.1:=by have:=C.pos; omega
  rw [this]
  exact Wbw hA hT (by simp) (n - r.1) r.2 r.1 (by omega) C.perm C.size C.up
 ·rw [if_neg z]
  have:r.1=n:=by have:=C.le; omega
  exact ⟨C.perm,this ▸ C.up⟩
end
noncomputable def Asks {α:Type} (n:Nat) (R:α->Prop):KasT α->Prop
 | .ret a=>R a
 | .ask i j k=>i < n/\j < n/\∀ b,Asks n R (k b)
theorem Asks.bind {α β:Type} {n:Nat} {R:α->Prop} {R':β->Prop} {f:α->KasT β}:∀ {t:KasT α},Asks n R t->(∀ a,R a->Asks n R' (f a))->Asks n R' (t.bind f)
 | .ret a,h,k=>k a h
 | .ask i j t,h,k=>⟨h.1,h.2.1,fun b=>Asks.bind (h.2.2 b) k⟩
noncomputable def Bel (n:Nat) (p:Array Nat):Prop:=0 < n/\∀ x∈p,x < n
theorem Bel.at {n:Nat} {p:Array Nat} (h:Bel n p) (k:Nat):at' p k < n:=by
 rw [Yae]
 cases e:p[k]? with
 | none=>exact h.1
 | some x=>exact h.2 x (Array.mem_of_getElem? e)
theorem Bel.perm {n:Nat} {p q:Array Nat} (h:Bel n p) (k:q.Perm p):Bel n q:=⟨h.1,fun x hx=>h.2 x (k.mem_iff.mp hx)⟩
theorem Xae {n:Nat} {p:Array Nat} (h:Bel n p):∀ (f m:Nat),Asks n (fun _=>True) (kas_asc p f m)
 | 0,m=>trivial
 | f + 1,m=>⟨h.at _,h.at _,fun b=>by
  cases b with
  | true=>exact trivial
  | false=>exact Xae h f (m + 1)⟩
theorem Zt {n:Nat}:∀ (f:Nat) (p:Array Nat) (m q:Nat),Bel n p->Asks n (fun r=>Bel n r.1) (kas_desc f p m q)
 | 0,p,m,q,h=>h
 | f + 1,p,m,q,h=>⟨h.at _,h.at _,fun b=>by
  cases b with
  | true =>
   show Asks n _ (if q > 0 then kas_desc f (kas_rev p (m - (q + 1)) m) (m + 1) 0 else kas_desc f p (m + 1) 0)
   split
   ·exact Zt f _ _ _ (h.perm (Yi _ _ _))
   ·exact Zt f _ _ _ h
  | false=>exact ⟨h.at _,h.at _,fun d=>by
    cases d with
    | true=>exact h
    | false=>exact Zt f p (m + 1) (q + 1) h⟩⟩
theorem Z6 {n m nrem:Nat} {p:Array Nat} (h:Bel n p):Asks n (fun r=>Bel n r.2) (kas_tail3 m nrem p) :=
 Asks.bind (Xae (h.perm (Yi p 0 m)) _ _) fun _ _=>h.perm (Yi p 0 m)
theorem Yt {n m nrem:Nat} {p:Array Nat} (h:Bel n p):Asks n (fun r=>Bel n r.2) (kas_descPart m nrem p) :=
 Asks.bind (Zt _ p _ 0 h) fun r hr=>by
  split
  ·exact Z6 (hr.perm (Yi _ _ _))
  ·exact Z6 hr
theorem Y9 {n nrem:Nat} {p:Array Nat} (h:Bel n p):Asks n (fun r=>Bel n r.2) (kas_count nrem p) :=
 Asks.bind (Xae h _ _) fun m _=>by
  split
  ·exact h
  ·split
   ·refine ⟨h.at _,h.at _,fun b=>?_⟩
    cases b with
    | true=>exact h
    | false=>exact Yt (h.perm (Yi _ _ _))
   ·exact Yt h
theorem Vu {n:Nat} {p:Array Nat} {k:Nat} (h:Bel n p):∀ (f l r:Nat),Asks n (fun _=>True) (kas_place p k f l r)
 | 0,l,r=>trivial
 | f + 1,l,r=>by
  unfold kas_place
  split
  ·trivial
  ·refine ⟨h.at _,h.at _,fun b=>?_⟩
   cases b with
   | true=>exact Vu h f _ _
   | false=>exact Vu h f _ _
theorem Za3 {n:Nat}:∀ (f:Nat) (p:Array Nat) (k:Nat),Bel n p->Asks n (fun _=>True) (kas_bin f p k)
 | 0,p,k,_=>trivial
 | f + 1,p,k,h=>Asks.bind (Vu h _ _ _) fun l _=>Za3 f _ _ (h.perm (bubble_perm _ _ _))
theorem Wbe {n:Nat} (hn:0 < n):Asks n (fun _=>True) (kas_sort n) :=
 Asks.bind (Y9 ⟨hn,fun x hx=>by simpa using hx⟩) fun r hr=>by
  split
  ·exact Za3 _ _ _ hr
  ·trivial
end DW
end
section
set_option maxHeartbeats 4000000
namespace DW
open PySem PySem.W PySem.Calls PyProof.Rows
theorem Z1 {α:Type} {cmp:Nat->Nat->(Bool->Shared->Prop)->Shared->Prop} {lt:Nat->Nat->Bool} {n:Nat} {s:Shared} (hc:∀ i j (C:Bool->Shared->Prop),i < n->j < n->C (lt i j) s->cmp i j C s) {R:α->Prop} {Q:α->Shared->Prop} :
  ∀ (t:KasT α),Asks n R t->Q (krun lt t) s->t.kasWp cmp Q s
 | .ret a,_,h=>h
 | .ask i j k,a,h=>hc i j _ a.1 a.2.1 (Z1 hc (k (lt i j)) (a.2.2 _) h)
section
variable {prog:Program} {w:World} {A:Around} {E:Value->Shared->Prop} {s:Shared} {vs:List Value} {lt:Nat->Nat->Bool}
noncomputable def Comp (prog:Program) (w:World) (A:Around) (h:Heap) (vs:List Value) (lt:Nat->Nat->Bool):Prop :=
 2<=vs.length->∀ s':Shared,(∀ b o,h.get? b=some o->s'.heap.get? b=some o)->∃ κ,(∀ R:SortKind->Shared->Prop,R κ s'->wpAny (model prog w) A (keyKind' vs.toArray) R (fun _ _=>False) s') /\
  ∀ i j (C:Bool->Shared->Prop),i < vs.length->j < vs.length->C (lt i j) s'->kas_ask prog w A κ vs i j C s'
noncomputable def Yac (vs:List Value) (p:Array Nat):List Value:=p.toList.map fun i=>vs.getD i Value.none
theorem Ybj (vs:List Value):Yac vs (List.toArray (List.range vs.length))=vs:=by
 apply List.ext_getElem?
 intro i
 unfold Yac
 by_cases h:i < vs.length
 ·simp [h]
 ·simp [Nat.le_of_not_lt h,h]
noncomputable def SortOk (lt:Nat->Nat->Bool) (n:Nat):Prop:=n < 64∨(n < 300/\(krun lt (kas_count n (List.toArray (List.range n)))).1=n)
theorem SortOk.lt300 {lt:Nat->Nat->Bool} {n:Nat} (h:SortOk lt n):n < 300:=by rcases h with h | h <;> omega
theorem Vbk:∀ n,n < 300->64<=n->minRun' n n 0<=n:=by
 have h:∀ n,n < 300->(decide (64<=n) && !decide (minRun' n n 0<=n))=false:=by decide +kernel
 intro n h1 h2
 have:=h n h1
 rw [decide_eq_true h2,Bool.true_and] at this
 simpa using this
theorem runsF {κ:SortKind} {it:Array Keyed} {n:Nat} {Q:Unit->SortSt->Shared->Prop} {G:Array Nat->Shared->Prop} (h2:2<=n) (h3:n < 300) (h64:64<=n)
  (hG:∀ p' st' s',p'.size=n->arrOf st'=p'.map (kas_item it)->failedOf st'=none->G p' s'->Q () st' s') (h:(kas_count n (List.toArray (List.range n))).kasWp (kas_cmp prog w A κ it) (fun r s'=>r.1=n/\G r.2 s') s) :
  kasC (model prog w) A E sortRuns' Q (kas_st κ it (List.toArray (List.range n))) s:=by
 obtain ⟨r,rfl⟩:∃ r,n=r + 2:=⟨n - 2,by omega⟩
 have hrs:(List.toArray (List.range (r + 2))).size=r + 2:=by simp
 rw [sortRuns'_eq]
 refine kasC_bind (kasC_get ?_)
 dsimp only
 have hsz:(arrOf (kas_st κ it (List.toArray (List.range (r + 2))))).size=r + 2:=by
  show ((List.toArray (List.range (r + 2))).map (kas_item it)).size=_
  rw [Array.size_map,hrs]
 have hmr:=Vbk (r + 2) h3 h64
 simp only [hsz]
 refine kasC_bind (kasC_range ?_)
 show kasC _ _ _ (forIn (0 :: 1 :: List.range' 2 r) _ _) _ _ _
 refine kasC_cons ?_
 dsimp only
 rw [if_neg (by omega)]
 simp only [Nat.sub_zero,Nat.zero_add]
 refine kasC_bind (kas_count_ (by omega) (by rw [hrs]; exact Nat.le_refl _) (fun m p' s' hm1 hm2 hp hg=>?_) h)
 have hps:p'.size=r + 2:=hp.trans hrs
 dsimp only
 obtain ⟨hm,hg'⟩:=hg
 have hm:m=r + 2:=hm
 subst hm
 rw [if_neg (by omega)]
 refine kasC_bind (kasC_get ?_)
 rw [show (pendingOf (kas_st κ it p')).back? = none from rfl]
 dsimp only
 refine kasC_bind (kasC_modify (kasC_pure ?_))
 show kasC _ _ _ (forIn (1 :: List.range' 2 r) _ _) _ _ _
 refine kasC_cons ?_
 dsimp only
 rw [if_pos (Nat.le_refl _)]
 refine kasC_pure ?_
 dsimp only
 refine kasC_bind (kasC_range ?_)
 show kasC _ _ _ (forIn (0 :: 1 :: List.range' 2 r) _ _) _ _ _
 refine kasC_cons ?_
 refine kasC_bind (kasC_get ?_)
 rw [if_pos (show (pendingOf (setPending (kas_st κ it p') ((pendingOf (kas_st κ it p')).push (0,r + 2,0)))).size<=1 from Nat.le_refl 1)]
 refine kasC_pure ?_
 dsimp only
 exact kasC_pure (hG p' _ _ hps rfl rfl hg')
theorem kat_any {κ:SortKind} {Q:SortSt->Shared->Prop} {G:Array Nat->Shared->Prop} (h2:2<=vs.length) (h64:SortOk lt vs.length)
  (hG:∀ p st' s',p.size=vs.length->arrOf st'=p.map (kas_item (vs.toArray.zip vs.toArray))->failedOf st'=none->G p s'->Q st' s')
  (hc:∀ i j (C:Bool->Shared->Prop),i < vs.length->j < vs.length->C (lt i j) s->kas_ask prog w A κ vs i j C s) (g:G (krun lt (kas_sort vs.length)) s) :
  wpAny (model prog w) A ((sortRuns').run (SortSt.mk' κ (vs.toArray.zip vs.toArray) #[] 7 none)) (fun r s'=>Q r.2 s') E s:=by
 by_cases h:vs.length < 64
 ·exact kat_run (ks:=vs) rfl h2 h hG (Z1 hc _ (Wbe (by omega)) g)
 ·obtain ⟨h3,h4⟩:vs.length < 300/\(krun lt (kas_count vs.length (List.toArray (List.range vs.length)))).1=vs.length:=by
   rcases h64 with h' | h'
   ·exact absurd h' h
   ·exact h'
  have eg:krun lt (kas_sort vs.length)=(krun lt (kas_count vs.length (List.toArray (List.range vs.length)))).2:=by
   unfold kas_sort
   rw [Xj,h4,if_neg (Nat.lt_irrefl _)]
   rfl
  rw [eg] at g
  have bel:Bel vs.length (List.toArray (List.range vs.length)):=⟨by omega,fun x hx=>by simpa using hx⟩
  have hd:=Z1 (Q:=fun r s'=>r.1=vs.length/\G r.2 s') hc _ (Y9 (nrem:=vs.length) bel) ⟨h4,g⟩
  rw [kat_ask_eq (ks:=vs) rfl] at hd
  have run:=runsF (E:=E) (Q:=fun _ st' s'=>Q st' s') h2 h3 (by omega) hG hd
  have est:SortSt.mk' κ (vs.toArray.zip vs.toArray) #[] 7 none=kas_st κ (vs.toArray.zip vs.toArray) (List.toArray (List.range vs.length)):=by
   have e:=kas_range (vs.toArray.zip vs.toArray)
   rw [show (vs.toArray.zip vs.toArray).size=vs.length by simp] at e
   show SortSt.mk' κ (vs.toArray.zip vs.toArray) #[] 7 none=SortSt.mk' κ ((List.toArray (List.range vs.length)).map (kas_item (vs.toArray.zip vs.toArray))) #[] 7 none
   rw [e]
  rw [est]
  exact run
theorem Yad {a:Addr} {n:Nat} {P:PySem.Fin->Shared->Prop} (ob:s.heap.get? a=some (seqObj "list" vs.toArray n)) (h64:SortOk lt vs.length) (hA:∀ a b,lt a b=true->lt b a=false) (hT:∀ a b c,lt b a=false->lt c b=false->lt c a=false)
  (hc:2<=vs.length->∀ s':Shared,(∀ b o,b≠a->s.heap.get? b=some o->s'.heap.get? b=some o)->∃ κ,(∀ R:SortKind->Shared->Prop,R κ s'->wpAny (model prog w) A (keyKind' vs.toArray) R (fun _ _=>False) s') /\
   ∀ i j (C:Bool->Shared->Prop),i < vs.length->j < vs.length->C (lt i j) s'->kas_ask prog w A κ vs i j C s')
  (h:∀ p:Array Nat,p.Perm (List.toArray (List.range vs.length))->Up lt p vs.length->P (.done (.ret .none)) { s with heap:=sortedHeap s.heap a vs (List.toArray (Yac vs p)) }) :
  wpAny (model prog w) A (Builtin.«list.sort» ⟨[.ref a],[]⟩) P E s:=by
 have sz:vs.toArray.size=vs.length:=by simp
 have h300:=h64.lt300
 have lz:∀ {p:Array Nat},p.size=vs.length->(List.toArray (Yac vs p)).size<=sizeLine + 1:=fun hp=>by
  unfold Yac
  rw [List.size_toArray,List.length_map,Array.length_toList,hp,sizeLine_eq]; omega
 rw [list_sort_plain]
 refine wpAny_bind (listItems_at ob rfl ?_)
 refine wpAny_bind (listUpdate_at ob rfl ?_ (by rw [List.size_toArray,sizeLine_eq]; omega) (Nat.zero_le _))
 obtain ⟨ep,ob1⟩:∃ ep,(s.heap.update a (Obj.mapSeq fun _=>(#[]:Array Value))).get? a=some (seqObj "list" #[] ep):=⟨_,get?_update_seq ob fun _=>#[]⟩
 refine wpAny_bind (seqEpoch_at ob1 rfl ?_)
 refine wpAny_bind (wpAny_newTuple ?_ (by show vs.length<=_; rw [sizeLine_eq]; omega))
 refine wpAny_bind (wpAny_newList ?_ (Nat.zero_le _))
 refine wpAny_holding ?_
 have ob6:(((s.heap.update a (Obj.mapSeq fun _=>(#[]:Array Value))).push (seqObj "tuple" vs.toArray 0)).push (seqObj "list" #[] 0)).get? a=some (seqObj "list" #[] ep):=Heap.get?_push_of_some _ (Heap.get?_push_of_some _ ob1)
 have kp:∀ b o,b≠a->s.heap.get? b=some o->(((s.heap.update a (Obj.mapSeq fun _=>(#[]:Array Value))).push (seqObj "tuple" vs.toArray 0)).push (seqObj "list" #[] 0)).get? b=some o:=fun b o nb e =>
  Heap.get?_push_of_some _ (Heap.get?_push_of_some _ (by rw [Heap.get?_update_ne _ _ _ _ nb]; exact e))
 show wpAny (model prog w) A _ P E { s with heap:=((s.heap.update a (Obj.mapSeq fun _=>(#[]:Array Value))).push (seqObj "tuple" vs.toArray 0)).push (seqObj "list" #[] 0) }
 dsimp only
 by_cases z:vs.toArray.size < 2
 ·rw [if_pos z,if_pos z]
  refine wpAny_bind (wpAny_pure ?_)
  rw [StateT.run_pure]
  refine wpAny_bind (wpAny_pure ?_)
  dsimp only
  have eo:(arrOf (SortSt.mk' general' (vs.toArray.zip vs.toArray) #[] 7 none)).map (·.2)=List.toArray (Yac vs (List.toArray (List.range vs.length))):=by
   rw [Ybj]
   show (vs.toArray.zip vs.toArray).map (·.2)=vs.toArray
   apply Array.toList_inj.mp
   simp [List.map_snd_zip]
  rw [eo]
  refine wpAny_bind (seqEpoch_at ob6 rfl ?_)
  refine wpAny_bind (listUpdate_at ob6 rfl ?_ (Nat.zero_le _) (lz (by simp)))
  simp only [if_false,bne_self_eq_false,Bool.false_eq_true]
  refine wpAny_pure (h _ (.refl _) fun i hi=>?_)
  rw [sz] at z; omega
 ·rw [if_neg z,if_neg z]
  rw [sz] at z
  obtain ⟨κ,k1,k2⟩:=hc (by omega) { s with heap:=((s.heap.update a (Obj.mapSeq fun _=>(#[]:Array Value))).push (seqObj "tuple" vs.toArray 0)).push (seqObj "list" #[] 0) } kp
  obtain ⟨r1,r2⟩:=Vb1 hA hT (n:=vs.length) (by omega)
  refine wpAny_bind (wpAny_mono (k1 (fun κ' s'=>κ'=κ/\s'=_) ⟨rfl,rfl⟩) (fun κ' s0 e0=>?_) fun _ _ x=>x.elim)
  obtain ⟨rfl,rfl⟩:=e0
  refine wpAny_bind (wpAny_mono (kat_any (vs:=vs) (lt:=lt) (Q:=fun st' s'=>s'={ s with heap:=((s.heap.update a (Obj.mapSeq fun _=>(#[]:Array Value))).push (seqObj "tuple" vs.toArray 0)).push (seqObj "list" #[] 0) }/\∃ p:Array Nat,p.size=vs.length/\arrOf st'=p.map (kas_item (vs.toArray.zip vs.toArray))/\failedOf st'=none/\p=krun lt (kas_sort vs.length))
   (G:=fun p s'=>s'={ s with heap:=((s.heap.update a (Obj.mapSeq fun _=>(#[]:Array Value))).push (seqObj "tuple" vs.toArray 0)).push (seqObj "list" #[] 0) }/\p=krun lt (kas_sort vs.length))
   (by omega) h64 (fun p st' s' a1 a2 a3 a4=>⟨a4.1,p,a1,a2,a3,a4.2⟩) k2 ⟨rfl,rfl⟩) ?_ fun _ _ e=>e)
  rintro ⟨⟨⟩,st'⟩ s' ⟨rfl,p,hp,har,hf,rfl⟩
  dsimp only
  have ho:=kat_snds (vs:=vs) rfl har
  rw [ho]
  refine wpAny_bind (seqEpoch_at ob6 rfl ?_)
  refine wpAny_bind (listUpdate_at ob6 rfl ?_ (Nat.zero_le _) (lz hp))
  rw [hf]
  simp only [if_false,bne_self_eq_false,Bool.false_eq_true]
  exact wpAny_pure (h _ r1 r2)
end
end DW
end
section
set_option maxHeartbeats 4000000
namespace DW
open PySem PySem.W PySem.Calls PyProof.Rows
noncomputable def IsItem (h:Heap) (v:Value) (x:Itm):Prop:=∃ (a:Addr) (o:Obj) (t u:Tok) (n:Nat),v = .ref a/\h.get? a=some o/\o.cls = .type "tuple"/\o.data = .seq #[.int x.1 t,.str ⟨x.2.toArray⟩ u] n
section
variable {prog:Program} {w:World} {A:Around} {E:Value->Shared->Prop}
end
end DW
end
section
namespace DW
open PySem PySem.W PyProof.Rows
end DW
namespace DW
open PySem PySem.W PySem.Calls PyProof.Rows
noncomputable def ltZ (r:List Int) (i j:Nat):Bool:=decide (r[i]?.getD 0 < r[j]?.getD 0)
theorem ltZ_asym (r:List Int):∀ a b,ltZ r a b=true->ltZ r b a=false:=fun a b h=>by simp only [ltZ,decide_eq_true_eq,decide_eq_false_iff_not] at *; omega
theorem Vah (r:List Int):∀ a b c,ltZ r b a=false->ltZ r c b=false->ltZ r c a=false:=fun a b c h k=>by simp only [ltZ,decide_eq_false_iff_not] at *; omega
noncomputable def outZ (r:List Int) (p:Array Nat):List Int:=p.toList.map fun i=>r[i]?.getD 0
theorem Wbj {r:List Int} {p:Array Nat} (h:p.Perm (List.toArray (List.range r.length))):(outZ r p).Perm r:=by
 have h1:p.toList.Perm (List.range r.length):=by simpa using Array.perm_iff_toList_perm.mp h
 refine (h1.map fun i=>r[i]?.getD 0).trans (List.Perm.of_eq ?_)
 apply List.ext_getElem?
 intro i
 by_cases q:i < r.length
 ·simp [q]
 ·simp [q,Nat.le_of_not_lt q]
theorem Vap {r:List Int} {p:Array Nat} {n:Nat} (hn:p.size=n) (h:Up (ltZ r) p n):(outZ r p).Pairwise (·<=·):=by
 refine List.pairwise_iff_getElem.mpr fun i j h1 h2 hij=>?_
 have le:=Up.le (Vah r) h (fun a=>by simp [ltZ]) (j - i) i (by simp [outZ] at h2; omega)
 rw [show i + (j - i)=j by omega] at le
 have e1:i < p.size:=by simpa [outZ] using h1
 have e2:j < p.size:=by simpa [outZ] using h2
 have f1:at' p i=p[i]:=by simp [Yae,e1]
 have f2:at' p j=p[j]:=by simp [Yae,e2]
 rw [f1,f2] at le
 simpa [outZ,ltZ] using le
section
variable {prog:Program} {w:World} {A:Around} {E:Value->Shared->Prop}
theorem Vbt {h:Heap} {vs:List Value} {r:List Int} (hl:vs.length=r.length) (hi:∀ (i:Nat) (v:Value) (x:Int),vs[i]? = some v->r[i]? = some x->∃ t,v = .int x t):Comp prog w A h vs (ltZ r):=by
 intro h2 s' keep
 have hk:IntsAre vs r:=by
  clear h2 keep
  induction vs generalizing r with
  | nil=>cases r with | nil=>exact .nil | cons=>simp at hl
  | cons v vs ih =>
   cases r with
   | nil=>simp at hl
   | cons x r =>
    obtain ⟨t,rfl⟩:=hi 0 v x rfl rfl
    exact .cons x t (ih (by simpa using hl) fun i v' x' e1 e2=>hi (i + 1) v' x' (by simpa using e1) (by simpa using e2))
 refine ⟨oneType',fun R hR=>?_,fun i j C hi1 hj1 hC=>?_⟩
 ·rw [ksk_kind (keys:=vs.toArray) (kz:=r) (by simpa using hk) (by simpa using h2)]
  exact wpAny_pure hR
 ·have hir:i < r.length:=by omega
  have hjr:j < r.length:=by omega
  have ei:vs.getD i Value.none=vs[i]:=by simp [hi1]
  have ej:vs.getD j Value.none=vs[j]:=by simp [hj1]
  have el:ltZ r i j=decide (r[i] < r[j]):=by simp [ltZ,hir,hjr]
  obtain ⟨t1,e1⟩:=hi i vs[i] r[i] (List.getElem?_eq_getElem hi1) (List.getElem?_eq_getElem hir)
  obtain ⟨t2,e2⟩:=hi j vs[j] r[j] (List.getElem?_eq_getElem hj1) (List.getElem?_eq_getElem hjr)
  unfold kas_ask
  rw [ei,ej,e1,e2]
  rw [el] at hC
  exact kat_lt_int hC
end
end DW
end
section
namespace DW
open PySem PySem.Spec PyProof.Rows L2
section
variable {prog:Program} {w:World} {A:Around} {E:Value->Shared->Prop} {s:Shared} {d it:Addr} {od:Obj} {es:Array DictEntry} {ep i:Nat}
theorem dit_new {Q:Value->Shared->Prop} (hs:(d == sysModules)=false) (ho:s.heap.get? d=some od) (hc:od.ExactDict) (hd:od.data = .dict es ep)
  (hQ:Q (.ref s.heap.objs.size) { s with heap:=s.heap.push { cls:=.type "dict_keyiterator",data:=.fields #[.ref d,.int 0 0,.int es.size 0,.int ep 0] } }):wpAny (model prog w) A (pyIter (.ref d)) Q E s:=by
 have T0:s.TypeIs (.ref d) "dict":=⟨od,ho,hc.1⟩
 refine wpAny_pyIter_slot T0 PySem.F.slot_dict_iter (wpAny_call_entry PySem.F.slot_dict_iter T0 PySem.F.entry_dict_iter ?_ (PySem.F.args_dict_iter_1 _))
 unfold Builtin.«dict.__iter__»; refine wpAny_bind ?_; unfold Builtin.Dict.dictSlotNone
 refine wpAny_bind (wpAny_notOrdered_dict T0 ?_); show wpAny _ _ (pure (Value.ref d)) _ _ s; refine wpAny_pure ?_
 show wpAny _ _ (Builtin.Dict.showsAll d >>= _) _ _ s; unfold Builtin.Dict.showsAll
 rw [if_neg (by rw [hs]; exact Bool.false_ne_true)]; refine wpAny_bind (wpAny_pure (wpAny_bind (wpAny_dictEntries ho hd (wpAny_bind (wpAny_dictEpoch ho hd ?_)))))
 refine wpAny_bind (wpAny_newObj_type (wpAny_pure ⟨_,rfl,"dict_keyiterator",_,⟨_,Heap.get?_push_size _ rfl,rfl⟩,PySem.F.slot_dict_keyiterator_next.lookup,?_⟩)); simpa [rawInt] using hQ
theorem dit_item {Q:Option Value->Shared->Prop} (hit:s.heap.IsKeyIter it d i es.size ep) (hod:s.heap.get? d=some od) (hdd:od.data = .dict es ep) (hlt:i < es.size)
  (hQ:∀ h',h'.IsKeyIter it d (i + 1) es.size ep->Heap.SameBut it s.heap h'->Q (some es[i].key) { s with heap:=h' }):wpAny (model prog w) A (pyNext (.ref it)) Q E s:=by
 obtain ⟨o,ho,hc,hd⟩:=id hit
 unfold pyNext
 refine wpAny_bind (wpAny_attempt (wpAny_callSpecial?_slot (name:=Str.ofString "__next__") hit.typeIs PySem.F.slot_dict_keyiterator_next (wpAny_call_entry PySem.F.slot_dict_keyiterator_next hit.typeIs PySem.F.entry_dict_keyiterator_next ?_ (PySem.F.args_dict_keyiterator_next_1 _))))
 refine wpAny_bind (wpAny_pure (wpAny_bind (wpAny_bind ?_)))
 (first | refine wpAny_bind (wpAny_typeNameOfWhole_keyiter hit.typeIs (wpAny_pure ?_)) | refine wpAny_bind (wpAny_typeNameOf_keyiter hit.typeIs (wpAny_pure ?_))); refine wpAny_bind (wpAny_fieldsOf ho hd ?_)
 have own:Builtin.Dict_items.ownsTuple "dict_keyiterator" = false:=by decide
 simp only [own,Bool.false_eq_true,if_false]; show wpAny _ _ (if (Value.ref d == Value.none)=true then _ else _) _ _ s
 rw [if_neg (show ¬ ((Value.ref d == Value.none)=true) from Bool.false_ne_true)]; refine wpAny_bind (wpAny_pure (wpAny_bind (wpAny_dictEntries hod hdd ?_)))
 rw [if_neg (by simp)]; refine wpAny_bind (wpAny_pure (wpAny_bind (wpAny_dictEpoch hod hdd ?_))); rw [if_neg (by simp)]; refine wpAny_pure ?_
 simp only [show ¬ ((i:Int) < 0) from by omega,if_false,Int.toNat_natCast,Array.getElem?_eq_getElem hlt]; refine wpAny_bind ?_
 (first | refine wpAny_bind (wpAny_typeNameOfWhole_keyiter hit.typeIs (wpAny_pure ?_)) | refine wpAny_bind (wpAny_typeNameOf_keyiter hit.typeIs (wpAny_pure ?_))); refine wpAny_bind (wpAny_isOneOf_keyiter hit.typeIs ?_)
 show wpAny _ _ (setField (.ref it) 1 (rawInt ((i:Int) + 1)) >>= _) _ _ s; refine wpAny_bind (wpAny_setField ho hd (by simp) ?_)
 have nx:(s.heap.update it (Obj.mapFields (·.setIfInBounds 1 (rawInt ((i:Int) + 1))))).IsKeyIter it d (i + 1) es.size ep:=⟨_,Heap.get?_update_self _ ho (Obj.isFreed_of_fields (Obj.data_mapFields hd _)),(Obj.cls_mapFields ..).trans hc,by rw [Obj.data_mapFields hd]; simp [rawInt]⟩
 refine wpAny_bind (wpAny_holding (wpAny_bind (wpAny_isOneOf_keyiter (s:={ s with heap:=s.heap.update it (Obj.mapFields (·.setIfInBounds 1 (rawInt ((i:Int) + 1)))) }) nx.typeIs ?_)))
 show wpAny _ _ (pure es[i].key) _ _ _; exact wpAny_pure (wpAny_pure ⟨_,rfl,wpAny_pure (hQ _ nx (Heap.SameBut.update ..))⟩)
theorem dit_end {Q:Option Value->Shared->Prop} (hh:A.handled=none) (hit:s.heap.IsKeyIter it d i es.size ep) (hod:s.heap.get? d=some od) (hdd:od.data = .dict es ep) (hge:es.size<=i)
  (hQ:∀ h',Heap.ExtBut it s.heap h'->Q none { s with heap:=h' }):wpAny (model prog w) A (pyNext (.ref it)) Q E s:=by
 obtain ⟨o,ho,hc,hd⟩:=id hit
 unfold pyNext
 refine wpAny_bind (wpAny_attempt (wpAny_callSpecial?_slot (name:=Str.ofString "__next__") hit.typeIs PySem.F.slot_dict_keyiterator_next (wpAny_call_entry PySem.F.slot_dict_keyiterator_next hit.typeIs PySem.F.entry_dict_keyiterator_next ?_ (PySem.F.args_dict_keyiterator_next_1 _))))
 refine wpAny_bind (wpAny_pure (wpAny_bind (wpAny_bind ?_)))
 (first | refine wpAny_bind (wpAny_typeNameOfWhole_keyiter hit.typeIs (wpAny_pure ?_)) | refine wpAny_bind (wpAny_typeNameOf_keyiter hit.typeIs (wpAny_pure ?_))); refine wpAny_bind (wpAny_fieldsOf ho hd ?_)
 have own:Builtin.Dict_items.ownsTuple "dict_keyiterator" = false:=by decide
 simp only [own,Bool.false_eq_true,if_false]; show wpAny _ _ (if (Value.ref d == Value.none)=true then _ else _) _ _ s
 rw [if_neg (show ¬ ((Value.ref d == Value.none)=true) from Bool.false_ne_true)]; refine wpAny_bind (wpAny_pure (wpAny_bind (wpAny_dictEntries hod hdd ?_)))
 rw [if_neg (by simp)]; refine wpAny_bind (wpAny_pure (wpAny_bind (wpAny_dictEpoch hod hdd ?_))); rw [if_neg (by simp)]; refine wpAny_pure ?_
 simp only [show ¬ ((i:Int) < 0) from by omega,if_false,Int.toNat_natCast,Array.getElem?_eq_none hge]; refine wpAny_bind ?_
 (first | refine wpAny_bind (wpAny_typeNameOfWhole_keyiter hit.typeIs (wpAny_pure ?_)) | refine wpAny_bind (wpAny_typeNameOf_keyiter hit.typeIs (wpAny_pure ?_))); show wpAny _ _ (setField (.ref it) 0 .none >>= _) _ _ s
 refine wpAny_bind (wpAny_setField ho hd (by simp) ?_); show wpAny _ _ (newExc (.type "StopIteration") [] >>= _) _ _ _; refine wpAny_bind ?_
 simp only [newExc,newTuple]; refine wpAny_bind (wpAny_newObj_type ?_ (by size_fits)); refine wpAny_bind (m:=firstArgMember _ _) (wpAny_of_eq (a:=Value.none) (by first | rfl | (simp only [firstArgMember]; rfl)) ?_)
 refine wpAny_newObj_type ?_ (by size_fits); simp only [raiseNew]; refine wpAny_bind (wpAny_handled ?_); rw [show A.in1.handled=none from hh]
 refine wpAny_bind (wpAny_pure (wpAny_throw ?_)); refine wpAny_bind (wpAny_isInstance (T:="StopIteration") (b:=true) ⟨_,Heap.get?_push_size _ rfl,rfl⟩ isSubtype_stop ?_)
 exact wpAny_pure (hQ _ (((Heap.SameBut.update ..).extBut.push _).push _))
end
end DW
end
section
set_option maxHeartbeats 4000000
namespace DW
open PySem PySem.W PySem.Calls PyProof.Rows
section
variable {prog:Program} {w:World} {A:Around} {E:Value->Shared->Prop} {s:Shared} {d:Addr} {od:Obj} {es:Array DictEntry} {ep:Nat}
end
section
variable {prog:Program} {w:World} {A:Around} {E:Value->Shared->Prop}
end
end DW
end
section
set_option maxHeartbeats 4000000
namespace DW
open PySem PySem.W PySem.Calls PyProof.Rows
section
variable {prog:Program} {w:World} {A:Around} {E:Value->Shared->Prop} {s:Shared} {vs:List Value} {lt:Nat->Nat->Bool}
end
end DW
end
section
namespace L2
open PySem PySem.Spec PyProof.Rows
end L2
end
section
namespace L2
open PySem PySem.Spec PyProof.Rows
theorem Zba {pos p0:Pos} {c cv:Value}:∀ (l:List Value),TriplesOk l->codeAmong pos (l ++ [rawInt p0.line,rawInt p0.col,c])=some cv->codeAmong pos l=some cv∨cv=c:=by
 intro l h
 fun_induction TriplesOk l with
 | case1 =>
  intro z
  simp only [List.nil_append,codeAmong,rawInt] at z
  split at z
  ·exact .inr (Option.some.inj z).symm
  ·cases z
 | case2 a t b u x rest ih =>
  intro z
  simp only [List.cons_append,codeAmong] at z ⊢
  split at z
  ·rename_i hc
   rw [if_pos hc]
   exact .inl z
  ·rename_i hc
   rw [if_neg hc]
   exact ih h z
 | case3=>exact h.elim
section
variable {X:Cx} {pins:List (Addr×Obj)} {σ:List (Option V)} {H:Hp} {s:Shared}
theorem Inv.grown {P c:Addr} {t:Tab} {pos:Pos} {h':Heap} {tk:Nat} (I:Inv X pins σ H s) (hH:H P=some (.tbl t)) (hx:Heap.ExtBut P s.heap h') (hc:s.heap.objs.size<=c) (hr:h'.CodeRec (.ref c) t.q)
  (hP:h'.get? P=some (PySem.W.tabObj (t.ps ++ #[rawInt pos.line,rawInt pos.col,.ref c]))) :
  Inv X pins σ (upd (upd H c (.own P)) P (.tbl (t ++ #[rawInt pos.line,rawInt pos.col,.ref c]))) { s with heap:=h',toks:=tk }:=by
 have hcn:H c=none:=I.hok.fresh hc
 have hPc:P≠c:=Xc hH hcn
 have old:∀ {b:Addr},b≠P->b≠c->upd (upd H c (.own P)) P (.tbl (t ++ #[rawInt pos.line,rawInt pos.col,.ref c])) b=H b:=fun h1 h2=>by rw [Vb h1,Vb h2]
 have nP:∀ {b:Addr},H b=none->b≠P:=fun h1 z=>by rw [z,hH] at h1; cases h1
 have nS:∀ {b:Addr} {u:HO},H b=some u->b≠c:=fun h1=>Xc h1 hcn
 have nU:∀ {b:Addr} {u:HO},H b=some u->u≠.tbl t->b≠P:=fun h1 h2 z=>by rw [z,hH] at h1; exact h2 (Option.some.inj h1).symm
 have lt:∀ {b:Addr} {o:Obj},s.heap.get? b=some o->b≠c:=fun e=>Nat.ne_of_lt (Nat.lt_of_lt_of_le (Heap.lt_size e) hc)
 obtain ⟨tp,tok,tcs⟩:=(show ObjOk X.prog X.w H s.heap P (.tbl t) from I.hok P _ hH)
 refine I.un ⟨fun b o e n _ _=>hx b o (nP n) e,fun b o e n _ _=>⟨o.slots,hx b o (nP n) e⟩,fun b o e n _=>(old (nP n) (lt e)).trans n,fun b o e _=>?_,fun b xs e=>(old (nU e (by simp)) (nS e)).trans e,fun b o u e=>(old (nU e (by simp)) (nS e)).trans e,fun b ps e=>?_⟩ fun b u e=>?_
 ·by_cases hb:b=P
  ·exact ⟨_,hb ▸ hP⟩
  ·exact ⟨o,hx b o hb e⟩
 ·by_cases hb:b=P
  ·subst hb
   rw [hH] at e
   cases e
   exact ⟨_,Yc⟩
  ·exact ⟨#[],by rw [old hb (nS e),e,Tab.nil]⟩
 ·by_cases hb:b=P
  ·subst hb
   rw [Yc] at e
   cases e
   refine ⟨hP,?_,fun pos' cv z=>?_⟩
   ·have:=TriplesOk_snoc pos.line pos.col (.ref c) t.ps.toList tok
    show TriplesOk (t.ps ++ #[rawInt pos.line,rawInt pos.col,.ref c]).toList
    simpa using this
   ·have z:codeAmong pos' (t.ps ++ #[rawInt pos.line,rawInt pos.col,.ref c]).toList=some cv:=z
    rw [Array.toList_append] at z
    rcases Zba t.ps.toList tok z with z | rfl
    ·obtain ⟨c1,oc,vs,tq,r1,r2,r3,r4⟩:=tcs pos' cv z
     exact ⟨c1,oc,vs,tq,r1,(old (nU r2 (by simp)) (nS r2)).trans r2,hx _ _ (nU r2 (by simp)) r3,r4⟩
    ·obtain ⟨c1,oc,vs,tq,r1,r3,r4⟩:=hr
     cases r1
     exact ⟨c,oc,vs,tq,rfl,by rw [Vb (Ne.symm hPc),Yc],r3,r4⟩
  ·by_cases hb2:b=c
   ·subst hb2
    rw [Vb hb,Yc] at e
    cases e
    obtain ⟨c1,oc,vs,tq,r1,r3,r4⟩:=hr
    cases r1
    exact ⟨oc,r3⟩
   ·rw [old hb hb2] at e
    refine (I.hok b u e).stay (fun b1 o1 h1 e1=>hx b1 o1 ?_ e1) (fun b1 h1=>(old (nU h1 (by simp)) (nS h1)).trans h1) fun b1 xs h1=>(old (nU h1 (by simp)) (nS h1)).trans h1
    rcases h1 with rfl | h1
    ·exact hb
    ·exact nU h1 (by simp)
end
end L2
end
section
namespace L2
open PySem PySem.Spec PyProof.Rows
section
variable {X:Cx} {pins:List (Addr×Obj)} {σ:List (Option V)} {H:Hp} {s:Shared}
end
end L2
end
section
set_option maxHeartbeats 2000000
namespace L2
open PySem PySem.Spec PyProof.Rows
section
variable {X:Cx} {pins:List (Addr×Obj)} {σ:List (Option V)} {H:Hp} {s:Shared}
end
end L2
end
section
namespace DW
open PySem PySem.Spec PyProof.Rows L2
section
variable {X:Cx}
theorem Zw {K:PySem.W.Frag} {b:String} {vs:List V} {H:Hp} {Q:VK} (h:lowA K (wBlt b) vs H Q) (hb:b≠"min3":=by decide):(∃ d v θ μ Qd,vs=[v]/\WOk K H θ μ/\Rp K H θ μ d v/\wBlt b [d] μ Qd/\Fin K H θ μ Qd Q)∨∃ d e v w θ μ Qd,vs=[v,w]/\WOk K H θ μ/\Rp K H θ μ d v/\Rp K H θ μ e w/\wBlt b [d,e] μ Qd/\Fin K H θ μ Qd Q:=by
 obtain ⟨ds,θ,μ,Qd,wk,rs,hw,f⟩:=h
 match ds,hw with
 | [],hw=>exact hw.elim
 | [d],hw =>
  obtain ⟨v,r,rfl,r1,r2⟩:=rs.cons_inv
  cases r2.nil_inv
  exact .inl ⟨d,v,θ,μ,Qd,rfl,wk,r1,hw,f⟩
 | [d,e],hw =>
  obtain ⟨v,r,rfl,r1,r2⟩:=rs.cons_inv
  obtain ⟨w,r,rfl,r3,r4⟩:=r2.cons_inv
  cases r4.nil_inv
  exact .inr ⟨d,e,v,w,θ,μ,Qd,rfl,wk,r1,r3,hw,f⟩
 | [d,e,g],hw=>exact (wB3_no hb hw).elim
 | _ :: _ :: _ :: _ :: _,hw=>exact hw.elim
theorem blt_len : CallR X (.builtin "len") (lowA X.K (wBlt "len")) := by
  intro pins s σ H xs us Q I r h
  rcases Zw h with ⟨d, v, θ, μ, Qd, rfl, wk, rd, hw, f⟩ | ⟨d, e, v, w, θ, μ, Qd, rfl, wk, rd, re, hw, f⟩
  . simp only [wBlt] at hw
    split at hw
    . rename_i n hn
      refine call_len pins s σ H _ us Q I r ⟨v, n, rfl, ?_, f.at wk Yd hw⟩
      have seq : ∀ {ds : List D}, Wb μ d = some ds -> n = ds.length -> LenV X.K v H n := fun {ds} hq hl => by
        obtain ⟨a, xs, rfl, hx, r'⟩ := Zi wk rd hq
        rcases hx with hx | hx
        . exact .inl ⟨xs, hx, hl.trans r'.length⟩
        . exact .inr ⟨xs, hx, hl.trans r'.length⟩
      cases d with
      | str x =>
        obtain ⟨rfl, hx⟩ := Vc rd
        simp only [lenOf, Option.some.injEq] at hn
        exact ⟨by simpa [Str.length] using hx, by rw [<- hn]; simp [Str.length]⟩
      | _ =>
        simp only [lenOf] at hn
        first
          | (simp [Wb] at hn; done)
          | (cases q : Wb μ _ with
             | none => rw [q] at hn; cases hn
             | some ds => rw [q] at hn; simp only [Option.map_some, Option.some.injEq] at hn; exact seq q hn.symm)
    . obtain ⟨a, kvs, rfl, e, q⟩ := len_dict wk rd hw
      obtain ⟨u, rfl, ru⟩ := r.one
      cases (show u = Value.ref a from ru)
      exact d_len I (.inl e) fun t s' I' => ⟨.int kvs.length, H, I', ⟨t, rfl⟩, f.at wk Yd q⟩
  . simp [wBlt] at hw
theorem blt_max (hc:X.calm=true):CallR X (.builtin "max") (lowA X.K (wBlt "max")):=by
 intro pins s σ H xs us Q I r h
 rcases Zw h with ⟨d,v,θ,μ,Qd,rfl,wk,rd,hw,f⟩ | ⟨d,e,v,w,θ,μ,Qd,rfl,wk,rd,re,hw,f⟩
 ·simp only [wBlt] at hw
  split at hw
  ·rename_i n ns hb
   cases q:Zv μ d with
   | none=>rw [q] at hb; cases hb
   | some ds =>
    rw [q] at hb
    obtain ⟨a,ys,rfl,hx,rs⟩:=Xp wk rd q
    cases Yw rs hb
    exact Zbv hc pins s σ H _ us Q I r ⟨a,n,ns,rfl,hx,f.at wk Yd hw⟩
  ·exact hw.elim
 ·cases d with
  | int i =>
   cases e with
   | int j =>
    cases Zb rd; cases Zb re
    exact Ybv hc pins s σ H _ us Q I r ⟨i,j,rfl,f.at wk Yd hw⟩
   | _=>simp [wBlt] at hw
  | _=>simp [wBlt] at hw
theorem blt_min (hc:X.calm=true):CallR X (.builtin "min") (lowA X.K (wBlt "min")):=by
 intro pins s σ H xs us Q I r h
 rcases Zw h with ⟨d,v,θ,μ,Qd,rfl,wk,rd,hw,f⟩ | ⟨d,e,v,w,θ,μ,Qd,rfl,wk,rd,re,hw,f⟩
 ·simp only [wBlt] at hw
  split at hw
  ·rename_i n ns hb
   cases q:Zv μ d with
   | none=>rw [q] at hb; cases hb
   | some ds =>
    rw [q] at hb
    obtain ⟨a,ys,rfl,hx,rs⟩:=Xp wk rd q
    cases Yw rs hb
    exact Wbu hc pins s σ H _ us Q I r ⟨a,n,ns,rfl,hx,f.at wk Yd hw⟩
  ·exact hw.elim
 ·cases d with
  | int i =>
   cases e with
   | int j =>
    cases Zb rd; cases Zb re
    exact Vbu hc pins s σ H _ us Q I r ⟨i,j,rfl,f.at wk Yd hw⟩
   | _=>simp [wBlt] at hw
  | _=>simp [wBlt] at hw
theorem keysB {H:Hp} {θ:List Addr} {μ:Mem}:∀ {is:List Int} {kvs:List (Key×V)},kvs.map (·.1)=(is.map (Sum.inl:Int->DKey)).map keyOf->Rps X.K H θ μ (is.map .int) (kvs.map fun kv=>kV kv.1)
 | [],kvs,h=>by
  have:kvs=[]:=by simpa using h
  subst this; exact Reps.nil
 | i :: is,[],h=>by simp at h
 | i :: is,kv :: kvs,h=>by
  simp only [List.map_cons,List.cons.injEq] at h
  rw [List.map_cons,List.map_cons]
  refine Reps.cons ?_ (keysB h.2)
  rw [h.1]
  exact Yd
theorem list_dict {pins:List (Addr×Obj)} {σ:L2.St} {H:Hp} {s:Shared} {a:Addr} {kvs:List (Key×V)} {Q:Value->Shared->Prop} {E:Value->Shared->Prop} (hc:X.calm=true) (I:Inv X pins σ H s) (e:Rd H a (.dK kvs))
  (h:∀ p s',H p=none->Inv X pins σ (upd H p (.lst (kvs.map fun kv=>kV kv.1))) s'->Q (.ref p) s'):wpAny (model X.prog X.w) X.A (call (.type "list") [.ref a]) Q E s:=by
 obtain ⟨z,hd,vs,rel,dd⟩:=dk_rd I.hok e
 obtain ⟨ep,dat⟩:=dd.dictAt
 have hl:=rel.length
 refine PySem.W.kdl_call (PySem.W.kdl_dict (knd:=Ve X.prog X.w) hd) (I.ok.hd hc) dat (by rw [<- hl]; exact z) fun h' tk acc' c' hk hS hacc=>?_
 refine h _ _ (I.hok.fresh (Nat.le_refl _)) (I.laid (a:=s.heap.objs.size) (t':=tk) hk (Nat.le_refl _) (show ObjOk X.prog X.w _ h' _ (.lst _) from ⟨by simpa using z,acc'.toList,c',?_,by simpa using hS⟩))
 have la:acc'.toList.length=vs.length:=by rw [Array.length_toList]; exact hacc.1
 have get:∀ (j:Nat) (v:Value),acc'.toList[j]? = some v->∃ k x,vs[j]? = some (k,x)/\Wai k v=true:=fun j v e=>hacc.2 j v (by rw [<- Array.getElem?_toList]; exact e)
 clear hk hS hacc dat dd I h z e
 generalize acc'.toList=us at la get
 induction kvs generalizing vs us with
 | nil=>cases rel; cases us with
  | nil=>exact .nil
  | cons _ _=>simp at la
 | cons p kvs ih =>
  cases rel with
  | cons h t =>
   rename_i q qs
   cases us with
   | nil=>simp at la
   | cons u us =>
    refine .cons ?_ (ih qs t (Paired.length t) us (by simpa using la) fun j v e=>by simpa using get (j + 1) v (by simpa using e))
    obtain ⟨k,x,e1,e2⟩:=get 0 u rfl
    simp only [List.getElem?_cons_zero,Option.some.injEq] at e1
    subst e1
    show L2.RelV (kV p.1) u
    rw [h.1]
    rcases Wc e2 with ⟨i,tt,rfl,rfl⟩ | ⟨x,tt,rfl,rfl⟩
    ·exact ⟨tt,rfl⟩
    ·exact ⟨tt,rfl⟩
theorem blt_list (hc:X.calm=true):CallR X (.type "list") (lowA X.K (wBlt "list")):=by
 intro pins s σ H xs us Q I r h
 rcases Zw h with ⟨d,v,θ,μ,Qd,rfl,wk,rd,hw,f⟩ | ⟨d,e,v,w,θ,μ,Qd,rfl,wk,rd,re,hw,f⟩
 ·simp only [wBlt] at hw
  split at hw
  ·rename_i ds hq
   obtain ⟨a,ys,rfl,hx,rs⟩:=Zi wk rd hq
   exact Vw pins s σ H _ us Q I r ⟨a,ys,rfl,hx,fun l hl=>Z0 wk f rs hw hl⟩
  ·unfold wKys at hw
   split at hw
   ·rename_i n _
    obtain ⟨a,rfl,ha⟩:=Ye rd
    split at hw
    ·rename_i ks ds hn
     obtain ⟨kvs,h1,h2,h3⟩:=wk.cell n _ a hn ha
     obtain ⟨u,rfl,ru⟩:=r.one
     cases (show u=Value.ref a from ru)
     refine list_dict hc I (.inl h1) fun p s' hp I'=>⟨.ref p,_,I',rfl,?_⟩
     obtain ⟨is,rfl,hw⟩:=hw
     exact Z0 wk f (keysB h2) hw hp
    ·exact hw.elim
   ·exact hw.elim
 ·simp [wBlt] at hw
theorem Xbw:CallR X (.type "list") (lowA X.K (wBlt "mlist")):=by
 intro pins s σ H xs us Q I r h
 rcases Zw h with ⟨d,v,θ,μ,Qd,rfl,wk,rd,hw,f⟩ | ⟨d,e,v,w,θ,μ,Qd,rfl,wk,rd,re,hw,f⟩
 ·simp only [wBlt] at hw
  split at hw
  ·rename_i ds hq
   obtain ⟨a,ys,rfl,hx,rs⟩:=Zi wk rd hq
   exact Vw pins s σ H _ us Q I r ⟨a,ys,rfl,hx,fun l hl=>Y0 wk f rs hw hl⟩
  ·exact hw.elim
 ·simp [wBlt] at hw
theorem Ybw:CallR X (.type "tuple") (lowA X.K (wBlt "tuple")):=by
 intro pins s σ H xs us Q I r h
 rcases Zw h with ⟨d,v,θ,μ,Qd,rfl,wk,rd,hw,f⟩ | ⟨d,e,v,w,θ,μ,Qd,rfl,wk,rd,re,hw,f⟩
 ·simp only [wBlt] at hw
  split at hw
  ·rename_i ds hq
   cases d with
   | tup es =>
    simp only [Wb,Option.some.injEq] at hq
    subst hq
    obtain ⟨a,ys,rfl,hx,nl,rs⟩:=Zf rd
    exact Zu pins s σ H _ us Q I r ⟨a,ys,rfl,.inr ⟨.of hx,f.at wk (by unfold Rep; exact ⟨a,ys,rfl,hx,nl,rs⟩) hw⟩⟩
   | _ =>
    obtain ⟨a,ys,rfl,hx,rs⟩:=Xp (ds:=ds) wk rd (by simpa [Zv] using hq)
    exact Zu pins s σ H _ us Q I r ⟨a,ys,rfl,.inl ⟨hx,fun l hl=>Vz wk f rs hw hl⟩⟩
  ·exact hw.elim
 ·simp [wBlt] at hw
theorem Xa9:CallR X (.builtin "divmod") (lowA X.K (wBlt "divmod")):=by
 intro pins s σ H xs us Q I r h
 rcases Zw h with ⟨d,v,θ,μ,Qd,rfl,wk,rd,hw,f⟩ | ⟨d,e,v,w,θ,μ,Qd,rfl,wk,rd,re,hw,f⟩
 ·simp [wBlt] at hw
 ·cases d with
  | int i =>
   cases e with
   | int j =>
    cases Zb rd; cases Zb re
    have hw:Xba j/\Qd (.tup [.int (i / j),.int (i % j)]) μ:=hw
    obtain ⟨⟨h1,h2⟩,hq⟩:=hw
    obtain ⟨u,w',rfl,⟨t,rfl⟩,⟨t',rfl⟩⟩:=vals2 r
    have h3:j.natAbs < 2 ^ 500:=by omega
    have h4:j.natAbs≠0:=by omega
    have h5:=(Nat.log2_lt h4).mpr h3
    refine divmod_int (by omega) ?_ (.inl (PyProof.noPylong_of_log2 (by omega)))
    rw [Int.fdiv_eq_ediv_of_nonneg i (by omega),Int.fmod_eq_emod_of_nonneg i (by omega)]
    have hn:H s.heap.objs.size=none:=I.hok.fresh (Nat.le_refl _)
    refine ⟨.ref s.heap.objs.size,_,?_,rfl,Vz wk f (xs:=[.int (i / j),.int (i % j)]) (.cons Yd (.cons Yd .nil)) hq hn⟩
    refine I.laid (fun b o e=>Heap.get?_push_of_some _ e) (Nat.le_refl _) ⟨by simp only [List.length_cons,List.length_nil]; rw [sizeLine_eq]; decide,[.int (i / j) s.toks,.int (i % j) (s.toks + 1)],.cons ⟨_,rfl⟩ (.cons ⟨_,rfl⟩ .nil),?_⟩
    exact ⟨_,Heap.get?_push_size s.heap rfl,rfl,0,rfl,rfl⟩
   | _=>simp [wBlt] at hw
  | _=>simp [wBlt] at hw
theorem Vbc {K:PySem.W.Frag} {H:Hp} {θ:List Addr} {μ:Mem} {b:Addr} {xs:List V} (wk:WOk K H θ μ) (h:H b=some (.tup xs)):¬ Live θ μ b:=by
 rintro ⟨n,c,h1,h2,h3⟩
 have:=wk.cell n c b h2 h1
 cases c with
 | lst ds=>obtain ⟨_,e,_⟩:=this; rw [h] at e; cases e
 | ins c fs=>obtain ⟨_,_,_,_,e,_⟩:=this; rw [h] at e; cases e
 | dic ks ds=>obtain ⟨_,e,_⟩:=this; rw [h] at e; cases e
 | dtc ks ds=>obtain ⟨_,e,_⟩:=this; rw [h] at e; cases e
 | fdt o ks ds=>obtain ⟨_,e,_⟩:=this; rw [h] at e; cases e
 | fdi o ks ds=>obtain ⟨_,e,_⟩:=this; rw [h] at e; cases e
 | exc c ks ds=>obtain ⟨_,_,_,_,e,_⟩:=this; rw [h] at e; cases e
 | gone=>exact h3 rfl
 | tbl=>obtain ⟨_,_,_,e,_⟩:=this; rw [h] at e; cases e
theorem W2 {H:Hp} {θ:List Addr} {μ:Mem}:∀ (l:List Int),Rps X.K H θ μ (l.map D.int) (l.map V.int)
 | []=>Reps.nil
 | i :: l=>Reps.cons Yd (W2 l)
theorem Xbn {K:PySem.W.Frag} {H:Hp} {θ:List Addr} {μ:Mem} (wk:WOk K H θ μ):∀ {kvs:List (List Key×V)} {xs:List (List Key×Addr×Value)} {r:List (List Int)},KT H kvs xs->kvs.map (·.1)=(r.map fun l=>l.map (Sum.inl:Int->DKey)).map (·.map keyOf) ->
  Rps K H θ μ (r.map tI) (xs.map fun q=>V.ref q.2.1)/\∀ (i:Nat) (q:List Key×Addr×Value) (l:List Int),xs[i]? = some q->r[i]? = some l->H q.2.1=some (.tup (l.map V.int))
 | [],xs,r,t,e=>by
  cases t
  have:r=[]:=by simpa using e.symm
  subst this
  exact ⟨Reps.nil,fun i q l h=>by simp at h⟩
 | p :: kvs,xs,r,t,e=>by
  cases t with
  | cons h t =>
   rename_i q qs
   cases r with
   | nil=>simp at e
   | cons l r =>
    simp only [List.map_cons,List.cons.injEq] at e
    obtain ⟨i1,i2⟩:=Xbn wk t e.2
    have hH:H q.2.1=some (.tup (l.map V.int)):=by
     rw [h.2.1,e.1,List.map_map,List.map_map]
     rfl
    refine ⟨?_,fun i q' l' h1 h2=>?_⟩
    ·rw [List.map_cons,List.map_cons]
     refine Reps.cons ?_ i1
     unfold tI Rep
     refine ⟨_,_,rfl,hH,Vbc wk hH,?_⟩
     have:∀ l:List Int,Reps K H θ (Live θ μ) (l.map D.int) (l.map V.int):=by
      intro l
      induction l with
      | nil=>exact Reps.nil
      | cons i l ih=>exact Reps.cons Yd ih
     exact this l
    ·cases i with
     | zero=>simp at h1 h2; subst h1 h2; exact hH
     | succ i=>exact i2 i q' l' (by simpa using h1) (by simpa using h2)
theorem blt_int:CallR X (.type "int") (lowA X.K (wBlt "int")):=by
 intro pins s σ H xs us Q I r h
 rcases Zw h with ⟨d,v,θ,μ,Qd,rfl,wk,rd,hw,f⟩ | ⟨d,e,v,w,θ,μ,Qd,rfl,wk,rd,re,hw,f⟩
 ·simp only [wBlt] at hw
  cases d with
  | int i=>cases Zb rd; exact Wak pins s σ H _ us Q I r (.inl ⟨i,rfl,f.at wk Yd hw⟩)
  | bl b=>cases Vh rd; exact Wak pins s σ H _ us Q I r (.inr ⟨b,rfl,f.at wk Yd hw⟩)
  | str x =>
   obtain ⟨n,⟨hl,hn⟩,hq⟩:=hw
   obtain ⟨rfl,_⟩:=Vc rd
   obtain ⟨u,rfl,ru⟩:=vals1 r
   obtain ⟨t,rfl⟩:=ru
   exact PySem.W.KIN.call_text hn (by simpa [Str.length] using hl) ⟨.int n,H,I.tok _,⟨_,rfl⟩,f.at wk Yd hq⟩
  | _=>exact hw.elim
 ·simp [wBlt] at hw
theorem pe_bltD {x:String} {as:List Expr} {ws:WA} {y:Str} {p pos:Pos} {e:Expr} {es:List Expr} (hx:x∈knownB) (ey:y=bname x) (hc:X.calm=true) (hrm:∃ k,Room k X.A) (g:Gl X y) (m:X.mg y=none) (ha:PA X (e :: es) (LA X.K ws))
  (hs:starEach (e :: es) X.env=(false,eval e X.env) :: starEach es X.env) (hpl:(backTo pos (starEach es X.env)).any (·.1)=false) :
  PE X (.Call (.Name y p) (e :: es) [] pos) (LE X.K fun ρ μ Q=>ws ρ μ fun ds μ1=>wBlt x ds μ1 Q):=by
 have wk:∀ {f:Value},PE X (.Call (.Name y p) (e :: es) [] pos) (tCB (lowA X.K (wBlt x)) (LA X.K ws))->PE X (.Call (.Name y p) (e :: es) [] pos) (LE X.K fun ρ μ Q=>ws ρ μ fun ds μ1=>wBlt x ds μ1 Q):=fun h=>PE.wk h fun σ H Q z=>le_args z
 subst ey
 simp only [knownB,List.mem_cons,List.not_mem_nil,or_false] at hx
 rcases hx with rfl | rfl | rfl | rfl | rfl | rfl | rfl | rfl
 ·exact wk (f:=.none) (Wi blt_len g m (by decide +kernel) ha (by decide +kernel) (by decide +kernel) hs hpl)
 ·exact wk (f:=.none) (Wi (blt_max hc) g m (by decide +kernel) ha (by decide +kernel) (by decide +kernel) hs hpl)
 ·exact wk (f:=.none) (Wi (blt_min hc) g m (by decide +kernel) ha (by decide +kernel) (by decide +kernel) hs hpl)
 ·exact wk (f:=.none) (Yl (blt_list hc) g m (by decide +kernel) ha (by decide +kernel) (by decide +kernel) hs hpl)
 ·exact wk (f:=.none) (Yl Xbw g m (by decide +kernel) ha (by decide +kernel) (by decide +kernel) hs hpl)
 ·exact wk (f:=.none) (Yl Ybw g m (by decide +kernel) ha (by decide +kernel) (by decide +kernel) hs hpl)
 ·exact wk (f:=.none) (Wi Xa9 g m (by decide +kernel) ha (by decide +kernel) (by decide +kernel) hs hpl)
 ·exact wk (f:=.none) (Yl blt_int g m (by decide +kernel) ha (by decide +kernel) (by decide +kernel) hs hpl)
end
end DW
end
section
namespace L2
open PySem PySem.Spec PyProof.Rows
theorem Xm {env:Env}:∀ (names:List (Str×NameKind)) (acc:List (Str×Addr)),(∀ y∈names,y.2 = .free->∃ c,env.cells.lookup y.1=some c) ->
  (∀ y c,acc.lookup y=some c->env.cells.lookup y=some c) ->
  ∃ cl:List (Str×Addr),(forIn names acc fun (x:Str×NameKind) (r:List (Str×Addr))=>match x with
   | (name,kind)=>if (kind == .free)=true then (do let c <- cellOf env name; pure (ForInStep.yield ((name,c) :: r))) else pure (ForInStep.yield r))=(pure cl:Sem (List (Str×Addr))) /\
   (∀ y c,cl.lookup y=some c->env.cells.lookup y=some c)/\(∀ y,(acc.lookup y).isSome=true->(cl.lookup y).isSome=true)/\∀ y∈names,y.2 = .free->(cl.lookup y.1).isSome=true
 | [],acc,_,h2=>⟨acc,by simp,h2,fun _ h=>h,fun y hy=>nomatch hy⟩
 | (n,k) :: r,acc,h1,h2=>by
  by_cases hk:k = .free
  ·subst hk
   obtain ⟨c,hc⟩:=h1 (n,.free) List.mem_cons_self rfl
   obtain ⟨cl,e1,e2,e3,e4⟩:=Xm r ((n,c) :: acc) (fun y hy=>h1 y (List.mem_cons_of_mem _ hy)) (fun y d hy=>by
    rw [List.lookup_cons] at hy
    split at hy
    ·rename_i hb
     rw [eq_of_beq hb]; cases hy; exact hc
    ·exact h2 y d hy)
   refine ⟨cl,?_,e2,fun y hy=>e3 y ?_,fun y hy hf=>?_⟩
   ·rw [List.forIn_cons]
    simp only [beq_self_eq_true,if_true]
    have:cellOf env n=pure c:=by unfold cellOf; rw [hc]
    rw [this,pure_bind,pure_bind]
    exact e1
   ·rw [List.lookup_cons]; split <;> simp_all
   ·rcases List.mem_cons.mp hy with rfl | hy
    ·exact e3 n (by simp [List.lookup_cons])
    ·exact e4 y hy hf
  ·obtain ⟨cl,e1,e2,e3,e4⟩:=Xm r acc (fun y hy=>h1 y (List.mem_cons_of_mem _ hy)) h2
   refine ⟨cl,?_,e2,e3,fun y hy hf=>?_⟩
   ·rw [List.forIn_cons]
    have hb:(k == NameKind.free)=false:=by simpa using hk
    simp only [hb,Bool.false_eq_true,if_false]
    rw [pure_bind]
    exact e1
   ·rcases List.mem_cons.mp hy with rfl | hy
    ·exact absurd hf hk
    ·exact e4 y hy hf
theorem X4 {scope:Scope} {env:Env} (h:∀ y∈scope.names,y.2 = .free->∃ c,env.cells.lookup y.1=some c) :
  ∃ cl,closureFor scope env=pure cl/\(∀ y c,cl.lookup y=some c->env.cells.lookup y=some c)/\∀ y∈scope.names,y.2 = .free->(cl.lookup y.1).isSome=true:=by
 obtain ⟨cl,e1,e2,_,e4⟩:=Xm scope.names [] h (fun y c hy=>by simp at hy)
 refine ⟨cl,?_,e2,e4⟩
 unfold closureFor
 simp only [bind_pure]
 exact e1
noncomputable def Wt (X:Cx) (Nc:List Str) (scope:Scope) (cl:List (Str×Addr)) (C:Addr) (s:Shared) (H:Hp) (ex:List Addr):Cx :=
 { X with N:=Nc,s₀:=s,H₀:=H,env:=compEnvC scope cl C X.env,outer:=X.stack,ex:=ex,fn:=fun y=>scope.names.lookup y == some .cell,pn:=[],xe:=fun _ _=>False }
noncomputable def PIf (X:Cx) (ifs:List Expr) (t:TT):Prop :=
 ∀ (pins:List (Addr×Obj)) (s:Shared) (σ:St) (H:Hp) (Q:Bool->Hp->Prop),Inv X pins σ H s->t σ H Q ->
  wpAny (model X.prog X.w) X.A (forIn ifs true fun c r=>if r=true then do let ok <- isTrue c X.env (eval c X.env); pure (ForInStep.yield ok) else pure (ForInStep.yield r)) (TP X pins σ Q) X.xe s
theorem pif_nil {X:Cx}:PIf X [] (fun σ H Q=>Q true H):=fun pins s σ H Q I h=>by
 rw [List.forIn_nil]; exact wpAny_pure ⟨H,I,h⟩
theorem pif_one {X:Cx} {c:Expr} {t:TT} (hc:PT X c t):PIf X [c] t:=fun pins s σ H Q I h=>by
 rw [List.forIn_cons]
 simp only [if_true]
 refine wpAny_bind (wpAny_bind (thn (hc pins s σ H Q I h) fun b s1 q=>wpAny_pure ?_))
 show wpAny _ _ (forIn ([]:List Expr) b _) _ _ _
 rw [List.forIn_nil]; exact wpAny_pure q
noncomputable def capS (cap:List Nat) (σ:St):St:=cap.map fun i=>(σ[i]?).join
noncomputable def tComp (n:Nat) (gt:TG) (cap:List Nat) (wi:TI) (tt:TT) (te:TE):TE:=fun σ H Q=>wi σ H fun J H1=>∃ W:Nat->Nat->List V->St->Hp->Prop,(∃ m,W 0 m [] (List.replicate n none ++ capS cap σ) H1)/\∀ i m vs σc H,W i m vs σc H ->
 (vs.length<=sizeLine/\J.stop i H/\∀ p,H p=none->Q (.ref p) (upd H p (.lst vs))) ∨
 (J.go i H/\vs.length < sizeLine/\∀ x H',J.yld i H x H'->gt x σc H' fun σ2 H2=>tt σ2 H2 fun b H3 =>
  if b=true then te σ2 H3 fun v H4=>∃ m',m' < m/\W (i + 1) m' (vs ++ [v]) σ2 H4 else ∃ m',m' < m/\W (i + 1) m' vs σ2 H3)
structure CompTxt (X:Cx) (xs:List Str) (scope:Scope) (Nc:List Str) (cap:List Nat):Prop where
 kind:scope.kind = .function
 cells:∀ y∈scope.names,y.2 = .cell->scope.names.lookup y.1=some .cell
 names:∀ y∈scope.names,y.2 = .local->scope.names.lookup y.1=some .local
 nd:Nc.Nodup
 caps:∀ (j:Nat) (y:Str),Nc[xs.length + j]? = some y->∃ i,cap[j]? = some i/\X.N[i]? = some y/\scope.names.lookup y=some .free
 len:Nc.length=xs.length + cap.length
 free:∀ y∈scope.names,y.2 = .free->X.env.kindOf y.1=some .cell∨X.env.kindOf y.1=some .free
theorem relabel_free {env:Env}:∀ {names:List (Str×NameKind)} {x:Str},names.lookup x=some .free ->
  (names.map fun (n,k)=>if (k == NameKind.free && env.scope.kind == .function && env.kindOf n == some .cell) then (n,NameKind.cell) else (n,k)).lookup x=some .free ∨
  (names.map fun (n,k)=>if (k == NameKind.free && env.scope.kind == .function && env.kindOf n == some .cell) then (n,NameKind.cell) else (n,k)).lookup x=some .cell
 | [],_,h=>by simp at h
 | (n,k) :: r,x,h=>by
  have ih:=@relabel_free env r x
  show List.lookup x ((if (k == NameKind.free && env.scope.kind == .function && env.kindOf n == some .cell)=true then (n,NameKind.cell) else (n,k)) :: _)=_∨List.lookup x ((if (k == NameKind.free && env.scope.kind == .function && env.kindOf n == some .cell)=true then (n,NameKind.cell) else (n,k)) :: _)=_
  by_cases hc:(k == NameKind.free && env.scope.kind == .function && env.kindOf n == some .cell)=true
  ·rw [if_pos hc]
   cases hx:x == n with
   | true=>right; simp only [List.lookup_cons,hx]
   | false =>
    simp only [List.lookup_cons,hx] at h ⊢
    exact ih h
  ·rw [if_neg hc]
   cases hx:x == n with
   | true =>
    simp only [List.lookup_cons,hx] at h ⊢
    exact .inl h
   | false =>
    simp only [List.lookup_cons,hx] at h ⊢
    exact ih h
theorem relabel_glob' {env:Env}:∀ {names:List (Str×NameKind)} {x:Str},names.lookup x=some .globalImplicit ->
  (names.map fun (n,k)=>if (k == NameKind.free && env.scope.kind == .function && env.kindOf n == some .cell) then (n,NameKind.cell) else (n,k)).lookup x=some .globalImplicit
 | [],_,h=>by simp at h
 | (n,k) :: r,x,h=>by
  have ih:=@relabel_glob' env r x
  show List.lookup x ((if (k == NameKind.free && env.scope.kind == .function && env.kindOf n == some .cell)=true then (n,NameKind.cell) else (n,k)) :: _)=_
  by_cases hc:(k == NameKind.free && env.scope.kind == .function && env.kindOf n == some .cell)=true
  ·rw [if_pos hc]
   cases hx:x == n with
   | true =>
    simp only [List.lookup_cons,hx] at h
    have:k = .free:=by
     rw [Bool.and_eq_true,Bool.and_eq_true] at hc
     simpa using hc.1.1
    rw [this] at h; cases h
   | false =>
    simp only [List.lookup_cons,hx] at h ⊢
    exact ih h
  ·rw [if_neg hc]
   cases hx:x == n with
   | true =>
    simp only [List.lookup_cons,hx] at h ⊢
    exact h
   | false =>
    simp only [List.lookup_cons,hx] at h ⊢
    exact ih h
theorem Wag {scope:Scope} {env:Env} {x:Str} (h:scope.names.lookup x=some .globalImplicit):(relabel scope env).names.lookup x=some .globalImplicit:=relabel_glob' h
theorem relabel_cell {env:Env}:∀ {names:List (Str×NameKind)} {x:Str},names.lookup x=some .cell ->
  (names.map fun (n,k)=>if (k == NameKind.free && env.scope.kind == .function && env.kindOf n == some .cell) then (n,NameKind.cell) else (n,k)).lookup x=some .cell
 | [],_,h=>by simp at h
 | (n,k) :: r,x,h=>by
  have ih:=@relabel_cell env r x
  show List.lookup x ((if (k == NameKind.free && env.scope.kind == .function && env.kindOf n == some .cell)=true then (n,NameKind.cell) else (n,k)) :: _)=_
  by_cases hc:(k == NameKind.free && env.scope.kind == .function && env.kindOf n == some .cell)=true
  ·rw [if_pos hc]
   cases hx:x == n with
   | true=>simp only [List.lookup_cons,hx]
   | false =>
    simp only [List.lookup_cons,hx] at h ⊢
    exact ih h
  ·rw [if_neg hc]
   cases hx:x == n with
   | true =>
    simp only [List.lookup_cons,hx] at h ⊢
    exact h
   | false =>
    simp only [List.lookup_cons,hx] at h ⊢
    exact ih h
theorem Zk:∀ (names:List (Str×NameKind)) (n:Nat) (acc:List (Str×Addr)),cellsFrom n names acc=cellsFrom n names [] ++ acc
 | [],n,acc=>rfl
 | (x,k) :: r,n,acc=>by
  unfold cellsFrom
  split
  ·rw [Zk r (n + 1) ((x,n) :: acc),Zk r (n + 1) [(x,n)]]; simp
  ·exact Zk r n acc
theorem W4:∀ (names:List (Str×NameKind)) (n:Nat) (y:Str) (c:Addr),(y,c)∈cellsFrom n names []->(y,NameKind.cell)∈names
 | [],n,y,c,h=>by simp [cellsFrom] at h
 | (x,k) :: r,n,y,c,h=>by
  unfold cellsFrom at h
  split at h
  ·rename_i hk
   rw [Zk] at h
   rcases List.mem_append.mp h with z | z
   ·exact List.mem_cons_of_mem _ (W4 r _ y c z)
   ·simp only [List.mem_cons,List.not_mem_nil,or_false,Prod.mk.injEq] at z
    obtain ⟨rfl,_⟩:=z
    rw [eq_of_beq hk]; exact List.mem_cons_self
  ·exact List.mem_cons_of_mem _ (W4 r _ y c h)
theorem Vt:∀ (names:List (Str×NameKind)) (n:Nat) (y:Str),(y,NameKind.cell)∈names->((cellsFrom n names []).lookup y).isSome=true
 | [],n,y,h=>by simp at h
 | (x,k) :: r,n,y,h=>by
  unfold cellsFrom
  rcases List.mem_cons.mp h with z | z
  ·cases z
   rw [if_pos (by rfl),Zk,List.lookup_append]
   cases q:(cellsFrom (n + 1) r []).lookup x with
   | some c=>rfl
   | none=>simp [List.lookup_cons]
  ·split
   ·rw [Zk,List.lookup_append]
    have:=Vt r (n + 1) y z
    obtain ⟨c,e⟩:=Option.isSome_iff_exists.mp this
    rw [e]; rfl
   ·exact Vt r n y z
theorem Zaq {M:Model} {A:Around} {E:Value->Shared->Prop} {s:Shared} {scope:Scope} {globals:Addr} {cl:List (Str×Addr)} {qual:Str} {env:Env} {Q:Env->Shared->Prop}
  (hQ:Q (newEnv scope s.heap.objs.size globals (cellsFrom (s.heap.objs.size + 1) scope.names cl) qual none .none (some env) builtinsNs) { s with heap:=pushCells (s.heap.push { cls:=.type "dict",data:=.dict #[] }) scope.names }) :
  wpAny M A (newFunctionEnv scope globals cl [] qual none .none (some env)) Q E s:=by
 simp only [newFunctionEnv,Option.isSome_some,if_true]
 refine wpAny_bind (wpAny_alloc ?_)
 refine wpAny_bind (wpAny_layCells _ (fun name kind cells=>by cases hkc:kind == NameKind.cell <;> simp [hkc]) _ _ _ _ ?_)
 rw [show ({ s with heap:=s.heap.push { cls:=.type "dict",data:=.dict #[] } }:Shared).heap.objs.size=s.heap.objs.size + 1 from Heap.size_push ..]
 rw [List.forIn_nil]
 exact wpAny_bind (wpAny_pure (wpAny_pure hQ))
theorem relabel_lookup {env:Env}:∀ {names:List (Str×NameKind)} {x:Str} {k:NameKind},
  (names.map fun (n,k)=>if (k == NameKind.free && env.scope.kind == .function && env.kindOf n == some .cell) then (n,NameKind.cell) else (n,k)).lookup x=some k ->
  names.lookup x=some k∨(k = .cell/\names.lookup x=some .free)
 | [],_,_,h=>by simp at h
 | (n,k0) :: r,x,k,h=>by
  have ih:=@relabel_lookup env r x k
  have h':List.lookup x ((if (k0 == NameKind.free && env.scope.kind == .function && env.kindOf n == some .cell)=true then (n,NameKind.cell) else (n,k0)) :: (r.map fun (n,k)=>if (k == NameKind.free && env.scope.kind == .function && env.kindOf n == some .cell) then (n,NameKind.cell) else (n,k)))=some k:=h
  by_cases hc:(k0 == NameKind.free && env.scope.kind == .function && env.kindOf n == some .cell)=true
  ·rw [if_pos hc] at h'
   cases hx:x == n with
   | true =>
    simp only [List.lookup_cons,hx] at h' ⊢
    cases h'
    have:k0 = .free:=by
     rw [Bool.and_eq_true,Bool.and_eq_true] at hc
     simpa using hc.1.1
    exact .inr ⟨rfl,by rw [this]⟩
   | false =>
    simp only [List.lookup_cons,hx] at h' ⊢
    exact ih h'
  ·rw [if_neg hc] at h'
   cases hx:x == n with
   | true =>
    simp only [List.lookup_cons,hx] at h' ⊢
    exact .inl h'
   | false =>
    simp only [List.lookup_cons,hx] at h' ⊢
    exact ih h'
end L2
namespace L2
open PySem PySem.Spec PyProof.Rows
section
variable {X:Cx} {elt iter tg:Expr} {xs:List Str} {gt:TG} {ifs:List Expr} {scope:Scope} {pos:Pos} {Nc:List Str} {cap:List Nat} {tt:TT} {te:TE} {cl:List (Str×Addr)}
 {pins:List (Addr×Obj)} {s2:Shared} {σ:St} {H2:Hp} {it:Addr} {fp:List Addr} {tn:Nat->Heap->Prop} {J:It}
noncomputable abbrev listAt (h:Heap) (D:Addr) (vs:List V):Prop:=∃ (its:List Value) (n:Nat),Vals vs its/\h.get? D=some { cls:=.type "list",data:=.seq its.toArray n }
theorem Ya9 {prog:Program} {w:World} {A:Around} {R:Result->Shared->Prop} {s:Shared} {elt tg iter:Expr} {ifs:List Expr} {scope:Scope} {pos:Pos} {it acc:Value} {env:Env} (J:Nat->Shared->Prop)
  (turn:∀ m s0,J m s0->wpAny (model prog w) A (pyNext it) (fun r s1=>match r with
   | none=>R (.ok .next) s1
   | some v=>wpAny (model prog w) A (letOwnedTupleGo tg it v) (fun _ s2=>wpAny (model prog w) A (assign tg env v) (fun _ s3 =>
     wpAny (model prog w) A (forIn ifs true fun c r=>if r=true then do let ok <- isTrue c env (eval c env); pure (ForInStep.yield ok) else pure (ForInStep.yield r)) (fun b s4 =>
      if b=true then wpAny (model prog w) A (eval elt env) (fun x s5 =>
       wpAny (model prog w) A (call (.builtin "list.append") [acc,x]) (fun _ s6=>∃ k,k < m/\J k s6) (notedBy (model prog w) A env fun e z=>R (.error e) z) s5) (notedBy (model prog w) A env fun e z=>R (.error e) z) s4
      else ∃ k,k < m/\J k s4) (notedBy (model prog w) A env fun e z=>R (.error e) z) s3) (notedBy (model prog w) A env fun e z=>R (.error e) z) s2) (notedBy (model prog w) A env fun e z=>R (.error e) z) s1) (notedBy (model prog w) A env fun e z=>R (.error e) z) s0)
  (m:Nat) (h:J m s):codeAny (model prog w) A (.compLoop (.ListComp elt [⟨tg,iter,ifs,0⟩] scope pos) 0 it acc env) R s:=by
 refine codeAny_loop rfl J ?_ m h
 intro m s0 h0
 have q:=turn m s0 h0
 show wpAny _ A (Sem.onRaise (compTurn (.ListComp elt [⟨tg,iter,ifs,0⟩] scope pos) 0 it acc env) _) _ _ s0
 apply wpAny_noted
 rw [compTurn_list]
 apply wpAny_bind
 apply wpAny_standAt
 refine wpAny_bind (thn q ?_)
 rintro (_ | v) s1 q
 ·exact wpAny_pure q
 refine wpAny_bind (thn q ?_)
 intro _ s2 q
 refine wpAny_bind (thn q ?_)
 intro _ s3 q
 refine wpAny_bind (thn q ?_)
 rintro (_ | _) s4 q
 ·exact wpAny_pure ⟨rfl,q⟩
 refine wpAny_bind (wpAny_bind (thn q ?_))
 intro x s5 q
 refine wpAny_bind (thn q ?_)
 intro _ s6 q
 exact wpAny_pure (wpAny_pure ⟨rfl,q⟩)
theorem Za9 (T:CompTxt X xs scope Nc cap) {h₁:Heap} {o:Obj} (hcl:∀ y c,cl.lookup y=some c->(scope.names.lookup y≠some .cell/\X.env.cells.lookup y=some c)∨(scope.names.lookup y=some .cell/\(s2.heap.push o).objs.size < c/\h₁.IsCell c none)) (hcl1:∀ y z c,cl.lookup y=some c->cl.lookup z=some c->y=z) (hcl2:∀ y∈scope.names,(y.2 = .free∨y.2 = .cell)->(cl.lookup y.1).isSome=true)
  (I2:Inv X pins σ H2 s2) (st2:tn 0 s2.heap) (Tn:Turn X.calm X.prog X.w X.K tg J fp it tn) (f2:∀ b∈fp,FpOk X pins H2 b) {m:Str->Option Value} {tk:Nat}
  (ho:∀ v,o.data≠.cell v)
  (hns:h₁.Ns (s2.heap.push o).objs.size m) (old:∀ b ob,(s2.heap.push o).get? b=some ob->h₁.get? b=some ob) :
  Inv (Wt X Nc scope cl (s2.heap.push o).objs.size { s2 with heap:=s2.heap.push o } H2 (s2.heap.objs.size :: fp)) [] (List.replicate xs.length none ++ capS cap σ) H2 { s2 with heap:=h₁,toks:=tk }:=by
 have hC:(s2.heap.push o).objs.size=s2.heap.objs.size + 1:=Heap.size_push ..
 have old2:∀ b ob,s2.heap.get? b=some ob->h₁.get? b=some ob:=fun b ob e=>old b ob (Heap.get?_push_of_some _ e)
 have hfr:∀ b,s2.heap.objs.size<=b->H2 b=none:=fun b hb=>I2.hok.fresh hb
 have cellLt:∀ y c,X.env.cells.lookup y=some c->c < s2.heap.objs.size:=fun y c e=>let ⟨v,q⟩:=I2.cell y c e; q.lt
 have fpLt:∀ b∈fp,b < s2.heap.objs.size:=fun b hb=>let ⟨ob,e,_⟩:=Tn.obj 0 s2.heap st2 b hb; Heap.lt_size e
 have kinds:∀ y,((compEnvC scope cl (s2.heap.push o).objs.size X.env).kindOf y=some .cell∨(compEnvC scope cl (s2.heap.push o).objs.size X.env).kindOf y=some .free)->scope.names.lookup y=some .free∨scope.names.lookup y=some .cell:=fun y hy=>by
  rcases hy with hy | hy
  ·rcases relabel_lookup (env:=X.env) (show (scope.names.map _).lookup y=some .cell from hy) with z | ⟨_,z⟩
   ·exact .inr z
   ·exact .inl z
  ·rcases relabel_lookup (env:=X.env) (show (scope.names.map _).lookup y=some .free from hy) with z | ⟨z,_⟩
   ·exact .inl z
   ·cases z
 refine ⟨⟨I2.ok.mod,T.kind,I2.ok.glob,I2.ok.blt,Nat.le_refl _,hcl1,fun y hy=>?_,fun y c h h2=>?cab,I2.ok.hd,I2.ok.frames,.inl rfl,fun b hb=>?_,fun b ob e=>?_,?_,fun b ob e hb=>?_,fun b hb hf=>?_,?_,fun b hb=>I2.stkFree b hb⟩,
  rfl,I2.bare,Un.kept old,⟨m,hns,fun i y v h1 h2 h3=>?_⟩,fun y c h=>?_,hfr _ (by show s2.heap.objs.size<=(s2.heap.push o).objs.size; omega),fun y c h=>?freeC,fun p hp=>absurd (show p∈([]:List (Addr×Obj)) from hp) (by simp),I2.hok.kept old2,?_,I2.hh⟩
 case cab =>
  have h:scope.names.lookup y=some .cell:=eq_of_beq h
  rcases hcl y c h2 with ⟨z,_⟩ | ⟨_,z,_⟩
  ·exact absurd h z
  ·exact Nat.le_of_lt z
 case freeC =>
  rcases hcl y c h with ⟨_,z⟩ | ⟨_,z,_⟩
  ·exact I2.freeC y c z
  ·exact hfr c (by omega)
 ·rcases kinds y hy with z | z
  ·exact Option.isSome_iff_exists.mp (hcl2 _ (PySem.mem_of_lookup z) (.inl rfl))
  ·exact Option.isSome_iff_exists.mp (hcl2 _ (PySem.mem_of_lookup z) (.inr rfl))
 ·refine ⟨?_,fun y c h z=>?_⟩
  ·show b≠(s2.heap.push o).objs.size
   rcases List.mem_cons.mp hb with rfl | hb
   ·exact Nat.ne_of_lt (by rw [hC]; exact Nat.lt_succ_self _)
   ·exact Nat.ne_of_lt (by rw [hC]; exact Nat.lt_succ_of_lt (fpLt b hb))
  ·rcases hcl y c h with ⟨_,w⟩ | ⟨_,w,_⟩
   ·have hc:=cellLt y c w
    subst z
    rcases List.mem_cons.mp hb with rfl | hb
    ·exact Nat.lt_irrefl _ hc
    ·exact (f2 _ hb).2.2.2.2.1 y _ w rfl
   ·subst z
    rcases List.mem_cons.mp hb with rfl | hb
    ·omega
    ·exact Nat.lt_irrefl _ (Nat.lt_trans (fpLt _ hb) (Nat.lt_trans (by rw [hC]; exact Nat.lt_succ_self _) w))
 ·have:=I2.bs b ob e
  exact ⟨Heap.get?_push_of_some _ this.1,this.2⟩
 ·show X.base.objs.size<=(s2.heap.push o).objs.size
  have:=Nat.le_trans I2.ok.bsz I2.sz
  omega
 ·have h1:=(I2.bs b ob e).1
  rcases List.mem_cons.mp hb with rfl | hb
  ·exact Nat.lt_irrefl _ (Heap.lt_size h1)
  ·rcases (f2 b hb).2.2.2.1 with z | z
   ·exact I2.ok.noex b ob e z
   ·have h3:b < X.base.objs.size:=Heap.lt_size e
    have h4:=I2.ok.bsz
    exact absurd (Nat.lt_of_lt_of_le h3 (Nat.le_trans h4 z)) (Nat.lt_irrefl _)
 ·show False
  rcases List.mem_cons.mp hb with rfl | hb
  ·obtain ⟨_,ob,e,_⟩:=I2.stack.mem hf
   exact Nat.lt_irrefl _ (Heap.lt_size e)
  ·rcases List.mem_cons.mp (I2.stkSub b hf) with z | z
   ·exact (f2 b hb).2.1 z
   ·exact (f2 b hb).2.2.1 z
 ·exact (I2.stack:s2.heap.FunFrames X.base X.stack).of_keeps (fun b ob e _=>⟨ob,Heap.get?_push_of_some _ e,rfl⟩)
 ·by_cases hix:i < xs.length
  ·rw [List.getElem?_append_left (by simpa using hix),List.getElem?_replicate] at h2
   split at h2 <;> cases h2
  ·obtain ⟨j,rfl⟩:∃ j,i=xs.length + j:=⟨i - xs.length,by omega⟩
   obtain ⟨i',e1,e2,e3⟩:=T.caps j y h1
   have hv:σ[i']? = some (some v):=by
    have h2':(capS cap σ)[j]? = some (some v):=by
     rw [List.getElem?_append_right (by simp)] at h2
     simpa using h2
    unfold capS at h2'
    rw [List.getElem?_map,e1] at h2'
    simp only [Option.map_some,Option.some.injEq] at h2'
    cases q:σ[i']? with
    | none=>rw [q] at h2'; cases h2'
    | some w'=>rw [q] at h2'; simp only [Option.join_some] at h2'; rw [h2']
   obtain ⟨mo,hno,hlo⟩:=I2.loc
   have hk:=T.free _ (PySem.mem_of_lookup e3) rfl
   have vis:Vis X.env.scope y:=by rcases hk with k | k; exact .inr (.inl k); exact .inr (.inr k)
   obtain ⟨u,r,l⟩:=hlo i' y v e2 hv vis
   refine ⟨u,r,.inr ⟨?_,?_⟩⟩
   ·exact (relabel_free (env:=X.env) e3).symm
   ·rcases l with ⟨k,_⟩ | ⟨_,c,e,z⟩
    ·rcases hk with k' | k' <;> (rw [k] at k'; cases k')
    ·obtain ⟨c',ec⟩:=Option.isSome_iff_exists.mp (hcl2 _ (PySem.mem_of_lookup e3) (.inl rfl))
     have ew:X.env.cells.lookup y=some c':=by
      rcases hcl y c' ec with ⟨_,w⟩ | ⟨w,_⟩
      ·exact w
      ·rw [e3] at w; cases w
     have e':some c=some c':=e.symm.trans ew
     cases e'
     obtain ⟨oc,q1,q2⟩:=z
     exact ⟨c,ec,oc,old2 _ _ q1,q2⟩
 ·rcases hcl y c h with ⟨_,w⟩ | ⟨_,_,w⟩
  ·obtain ⟨v,oc,q1,q2⟩:=I2.cell y c w
   exact ⟨v,oc,old2 _ _ q1,q2⟩
  ·exact ⟨none,w⟩
 ·show (List.replicate xs.length none ++ capS cap σ).length=Nc.length
  rw [T.len]
  simp [capS]
theorem comp_back (I2:Inv X pins σ H2 s2) (f2:∀ b∈fp,FpOk X pins H2 b) {o:Obj} {σ':St} {H:Hp} {s':Shared} {pins':List (Addr×Obj)} {vs:List V} {h':Heap}
  (I:Inv (Wt X Nc scope cl (s2.heap.push o).objs.size { s2 with heap:=s2.heap.push o } H2 (s2.heap.objs.size :: fp)) pins' σ' H s') (hD:H s2.heap.objs.size=none) (hz:vs.length<=sizeLine) (hl:listAt s'.heap s2.heap.objs.size vs)
  (hs:Heap.SameBut (s2.heap.push o).objs.size s'.heap h'):Inv X pins σ (upd H s2.heap.objs.size (.lst vs)) { s' with heap:=h' }:=by
 have hC:(s2.heap.push o).objs.size=s2.heap.objs.size + 1:=Heap.size_push ..
 have hk:∀ b ob,b≠(s2.heap.push o).objs.size->s'.heap.get? b=some ob->h'.get? b=some ob:=fun b ob hb e=>(hs.2 b hb).trans e
 have B:Un (frs X.stack) (s2.heap.objs.size :: fp) H2 H (s2.heap.push o) s'.heap:=I.base
 have low:∀ b ob,s2.heap.get? b=some ob->b≠s2.heap.objs.size/\b≠(s2.heap.push o).objs.size:=fun b ob e=>by
  have:=Heap.lt_size e
  exact ⟨Nat.ne_of_lt this,Nat.ne_of_lt (by rw [hC]; exact Nat.lt_succ_of_lt this)⟩
 have nin:∀ b ob,s2.heap.get? b=some ob->b ∉ fp->b ∉ s2.heap.objs.size :: fp:=fun b ob e h z=>(List.mem_cons.mp z).elim (low b ob e).1 h
 refine I2.call' (ch:=fp) I.os ⟨fun b ob e n hf he=>?_,fun b ob e n hf he=>?_,fun b ob e n he=>?_,fun b ob e he=>?_,fun b xs e=>?_,fun b ob u e=>?_,fun b ps e=>?_⟩ ?_ I.bare fun b hb=>⟨(f2 b hb).2.2.2.1,(f2 b hb).2.1,(f2 b hb).2.2.2.2.1,(f2 b hb).2.2.2.2.2⟩
 ·exact hk b ob (low b ob e).2 (B.keep b ob (Heap.get?_push_of_some _ e) n hf (nin b ob e he))
 ·obtain ⟨sl,q⟩:=B.slot b ob (Heap.get?_push_of_some _ e) n hf (nin b ob e he)
  exact ⟨sl,hk b _ (low b ob e).2 q⟩
 ·rw [Vb (low b ob e).1]
  exact B.free b ob (Heap.get?_push_of_some _ e) n (nin b ob e he)
 ·obtain ⟨o',q⟩:=B.there b ob (Heap.get?_push_of_some _ e) (nin b ob e he)
  exact ⟨o',hk b _ (low b ob e).2 q⟩
 ·have q:=B.tups b xs e
  rw [Vb (Xc q hD)]; exact q
 ·have q:=B.frzs b ob u e
  rw [Vb (Xc q hD)]; exact q
 ·obtain ⟨more,q⟩:=B.tbls b ps e
  exact ⟨more,by rw [Vb (Xc q hD)]; exact q⟩
 ·intro b ob e
  have hCn:H (s2.heap.push o).objs.size=none:=I.free
  by_cases hb:b=s2.heap.objs.size
  ·subst hb
   rw [Yc] at e
   cases e
   obtain ⟨its,n,r,q⟩:=hl
   exact ⟨hz,its,n,r,hk _ _ (Nat.ne_of_lt (by rw [hC]; exact Nat.lt_succ_self _)) q⟩
  ·rw [Vb hb] at e
   refine (I.hok b ob e).stay (fun c u hc q=>hk c u ?_ q) (fun c q=>?_) fun c xs q=>?_
   ·rintro rfl
    rcases hc with rfl | hc
    ·rw [hCn] at e; cases e
    ·rw [hCn] at hc; cases hc
   ·rw [Vb (Xc q hD)]; exact q
   ·rw [Vb (Xc q hD)]; exact q
theorem Xa2 (T:CompTxt X xs scope Nc cap) (hcl:∀ y c,cl.lookup y=some c->X.env.cells.lookup y=some c) (hcl2:∀ y∈scope.names,y.2 = .free->(cl.lookup y.1).isSome=true)
  (I2:Inv X pins σ H2 s2) (st2:tn 0 s2.heap) (Tn:Turn X.calm X.prog X.w X.K tg J fp it tn) (f2:∀ b∈fp,FpOk X pins H2 b)
  (hG:∀ cl C s H ex,PG (Wt X Nc scope cl C s H ex) tg gt) (hT:∀ cl C s H ex,PIf (Wt X Nc scope cl C s H ex) ifs tt) (hE:∀ cl C s H ex,PE (Wt X Nc scope cl C s H ex) elt te)
  (W:Nat->Nat->List V->St->Hp->Prop) {m0:Nat} (w0:W 0 m0 [] (List.replicate xs.length none ++ capS cap σ) H2) {Fn:List V->Hp->Prop}
  (turn:∀ i m vs σc H,W i m vs σc H->(vs.length<=sizeLine/\J.stop i H/\Fn vs H) ∨
   (J.go i H/\vs.length < sizeLine/\∀ x H',J.yld i H x H'->gt x σc H' fun σ2 H2=>tt σ2 H2 fun b H3 =>
    if b=true then te σ2 H3 fun v H4=>∃ m',m' < m/\W (i + 1) m' (vs ++ [v]) σ2 H4 else ∃ m',m' < m/\W (i + 1) m' vs σ2 H3))
  {E:Value->Shared->Prop} {RR:Value->Addr->Result->Shared->Prop}
  (fin:∀ (C:Addr) (vs:List V) (H:Hp) (s':Shared) (m:Str->Option Value),s2.heap.objs.size < C->H C=none->s'.heap.Ns C m->H s2.heap.objs.size=none->Fn vs H ->
   (∀ h',Heap.SameBut C s'.heap h'->Inv X pins σ (upd H s2.heap.objs.size (.lst vs)) { s' with heap:=h' })->RR (.ref s2.heap.objs.size) C (.ok .next) s') :
  wpAny (model X.prog X.w) X.A (newList []) (fun acc s₃=>wpAny (model X.prog X.w) X.A (newFunctionEnv scope X.env.globals cl [] X.env.qual none .none (some X.env)) (fun cenv s₄ =>
   codeAny (model X.prog X.w) X.A (.compStart (.ListComp elt [⟨tg,iter,ifs,0⟩] scope pos) 0 (.ref it) acc { cenv with scope:=relabel scope X.env }) (RR acc cenv.locals) s₄) E s₃) E s2:=by
 refine wpAny_newObj_type (Zaq ?_)
 generalize hcf:cellsFrom ((s2.heap.push { cls:=.type "list",dict:=none,data:=.seq ([]:List Value).toArray }).objs.size + 1) scope.names cl=cf
 generalize hh₁:pushCells ((s2.heap.push { cls:=.type "list",dict:=none,data:=.seq ([]:List Value).toArray }).push { cls:=.type "dict",data:=.dict #[] }) scope.names=h₁
 have hns₁:h₁.Ns (s2.heap.push { cls:=.type "list",dict:=none,data:=.seq ([]:List Value).toArray }).objs.size (fun _=>none):=by
  rw [<- hh₁]; exact (Heap.Ns.new _ (.type "dict")).keeps (pushCells_keeps _ _)
 have hsz:(s2.heap.push { cls:=.type "list",dict:=none,data:=.seq ([]:List Value).toArray }).objs.size=s2.heap.objs.size + 1:=Heap.size_push ..
 have oldC:∀ b ob,(s2.heap.push { cls:=.type "list",dict:=none,data:=.seq ([]:List Value).toArray }).get? b=some ob->h₁.get? b=some ob:=fun b ob e=>by
  rw [<- hh₁]; exact pushCells_keeps _ _ b ob (Heap.get?_push_of_some _ e)
 have e2s:((s2.heap.push { cls:=.type "list",dict:=none,data:=.seq ([]:List Value).toArray }).push { cls:=.type "dict",data:=.dict #[] }).objs.size=(s2.heap.push { cls:=.type "list",dict:=none,data:=.seq ([]:List Value).toArray }).objs.size + 1:=Heap.size_push ..
 have own:=cellsFrom_ok scope.names ((s2.heap.push { cls:=.type "list",dict:=none,data:=.seq ([]:List Value).toArray }).push { cls:=.type "dict",data:=.dict #[] }) ((s2.heap.push { cls:=.type "list",dict:=none,data:=.seq ([]:List Value).toArray }).objs.size + 1) [] ⟨fun _ _ hm=>(nomatch hm),List.Pairwise.nil⟩ (by rw [e2s]; exact Nat.le_refl _)
 rw [e2s,hh₁] at own
 rw [Zk] at hcf
 generalize how:cellsFrom ((s2.heap.push { cls:=.type "list",dict:=none,data:=.seq ([]:List Value).toArray }).objs.size + 1) scope.names []=ow at own hcf
 have lk:∀ y c,cf.lookup y=some c->(scope.names.lookup y≠some .cell/\cl.lookup y=some c)∨(ow.lookup y=some c):=fun y c h=>by
  rw [<- hcf,List.lookup_append] at h
  cases q:ow.lookup y with
  | some c'=>rw [q] at h; exact .inr h
  | none =>
   rw [q] at h
   refine .inl ⟨fun z=>?_,h⟩
   have:=Vt scope.names ((s2.heap.push { cls:=.type "list",dict:=none,data:=.seq ([]:List Value).toArray }).objs.size + 1) y (PySem.mem_of_lookup z)
   rw [how,q] at this
   cases this
 have owC:∀ y c,ow.lookup y=some c->scope.names.lookup y=some .cell/\(s2.heap.push { cls:=.type "list",dict:=none,data:=.seq ([]:List Value).toArray }).objs.size < c/\h₁.IsCell c none:=fun y c h=>by
  have hm:=PySem.mem_of_lookup h
  have h2:=W4 scope.names _ y c (by rw [how]; exact hm)
  exact ⟨T.cells _ h2 rfl,(own.empty y c hm).2,(own.empty y c hm).1⟩
 have cellLt:∀ y c,X.env.cells.lookup y=some c->c < s2.heap.objs.size:=fun y c e=>let ⟨v,q⟩:=I2.cell y c e; q.lt
 have hcl:∀ y c,cf.lookup y=some c->(scope.names.lookup y≠some .cell/\X.env.cells.lookup y=some c)∨(scope.names.lookup y=some .cell/\(s2.heap.push { cls:=.type "list",dict:=none,data:=.seq ([]:List Value).toArray }).objs.size < c/\h₁.IsCell c none):=fun y c h =>
  (lk y c h).imp (fun z=>⟨z.1,hcl y c z.2⟩) (owC y c)
 have hcl1:∀ y z c,cf.lookup y=some c->cf.lookup z=some c->y=z:=fun y z c h1 h2=>by
  rcases lk y c h1 with ⟨a1,a2⟩ | a <;> rcases lk z c h2 with ⟨b1,b2⟩ | b
  ·rcases hcl y c h1 with ⟨_,w1⟩ | ⟨w1,_⟩
   ·rcases hcl z c h2 with ⟨_,w2⟩ | ⟨w2,_⟩
    ·exact I2.ok.inj y z c w1 w2
    ·exact absurd w2 b1
   ·exact absurd w1 a1
  ·rcases hcl y c h1 with ⟨_,w1⟩ | ⟨w1,_⟩
   ·exact (Nat.lt_irrefl _ (Nat.lt_trans (cellLt y c w1) (Nat.lt_trans (by rw [hsz]; exact Nat.lt_succ_self _) (owC z c b).2.1))).elim
   ·exact absurd w1 a1
  ·rcases hcl z c h2 with ⟨_,w1⟩ | ⟨w1,_⟩
   ·exact (Nat.lt_irrefl _ (Nat.lt_trans (cellLt z c w1) (Nat.lt_trans (by rw [hsz]; exact Nat.lt_succ_self _) (owC y c a).2.1))).elim
   ·exact absurd w1 b1
  ·exact PySem.name_of_addr own.apart (PySem.mem_of_lookup a) (PySem.mem_of_lookup b)
 have hcl2:∀ y∈scope.names,(y.2 = .free∨y.2 = .cell)->(cf.lookup y.1).isSome=true:=fun y hy hk=>by
  rw [<- hcf,List.lookup_append]
  rcases hk with hk | hk
  ·obtain ⟨c,e⟩:=Option.isSome_iff_exists.mp (hcl2 y hy hk)
   rw [e]
   cases ow.lookup y.1 <;> rfl
  ·have:=Vt scope.names ((s2.heap.push { cls:=.type "list",dict:=none,data:=.seq ([]:List Value).toArray }).objs.size + 1) y.1 (by rw [<- hk]; exact hy)
   rw [how] at this
   obtain ⟨c,e⟩:=Option.isSome_iff_exists.mp this
   rw [e]; rfl
 clear lk owC own how hcf
 dsimp only at hns₁ ⊢
 have I0:=Za9 (o:={ cls:=.type "list",dict:=none,data:=.seq ([]:List Value).toArray }) (tk:=s2.toks) T hcl hcl1 hcl2 I2 st2 Tn f2 (by intro v z; cases z) hns₁ oldC
 have st1:tn 0 h₁:=Tn.keep 0 _ _ st2 fun b _ ob e=>oldC b ob (Heap.get?_push_of_some _ e)
 have hD0:listAt h₁ s2.heap.objs.size []:=⟨[],0,.nil,oldC _ _ (Heap.get?_push_size _ rfl)⟩
 have fpF:∀ {H:Hp} {pn:List (Addr×Obj)},(∀ b∈fp,H b=none)->(∀ p∈pn,p.1 ∉ fp)->∀ b∈fp,FpOk (Wt X Nc scope cf (s2.heap.push { cls:=.type "list",dict:=none,data:=.seq ([]:List Value).toArray }).objs.size { s2 with heap:=s2.heap.push { cls:=.type "list",dict:=none,data:=.seq ([]:List Value).toArray } } H2 (s2.heap.objs.size :: fp)) pn H b:=fun {H pn} hn hp b hb=>by
  have hlt:b < s2.heap.objs.size:=let ⟨ob,e,_⟩:=Tn.obj 0 s2.heap st2 b hb; Heap.lt_size e
  refine ⟨hn b hb,?_,fun z=>?_,.inl (List.mem_cons_of_mem _ hb),fun y c h=>?_,fun p hpp=>?_⟩
  ·exact Nat.ne_of_lt (by show b < (s2.heap.push _).objs.size; rw [hsz]; exact Nat.lt_succ_of_lt hlt)
  ·rcases List.mem_cons.mp (I2.stkSub b z) with z | z
   ·exact (f2 b hb).2.1 z
   ·exact (f2 b hb).2.2.1 z
  ·rcases hcl y c h with ⟨_,w⟩ | ⟨_,w,_⟩
   ·exact (f2 b hb).2.2.2.2.1 y c w
   ·exact Nat.ne_of_gt (Nat.lt_trans hlt (by omega))
  ·rcases List.mem_append.mp hpp with q | q
   ·exact absurd (show p∈([]:List (Addr×Obj)) from q) (by simp)
   ·exact fun z=>hp p q (z ▸ hb)
 have loop:codeAny (model X.prog X.w) X.A (.compLoop (.ListComp elt [⟨tg,iter,ifs,0⟩] scope pos) 0 (.ref it) (.ref s2.heap.objs.size) (compEnvC scope cf (s2.heap.push { cls:=.type "list",dict:=none,data:=.seq ([]:List Value).toArray }).objs.size X.env))
   (RR (.ref s2.heap.objs.size) (s2.heap.push { cls:=.type "list",dict:=none,data:=.seq ([]:List Value).toArray }).objs.size) { s2 with heap:=h₁,toks:=s2.toks }:=by
  generalize hX:Wt X Nc scope cf (s2.heap.push { cls:=.type "list",dict:=none,data:=.seq ([]:List Value).toArray }).objs.size { s2 with heap:=s2.heap.push { cls:=.type "list",dict:=none,data:=.seq ([]:List Value).toArray } } H2 (s2.heap.objs.size :: fp)=X' at I0 fpF
  have eP:X'.prog=X.prog:=by rw [<- hX]; rfl
  have ew:X'.w=X.w:=by rw [<- hX]; rfl
  have eK:X'.K=X.K:=by rw [<- hX]; rfl
  have eA:X'.A=X.A:=by rw [<- hX]; rfl
  have ec:X'.calm=X.calm:=by rw [<- hX]; rfl
  have eN:X'.N=Nc:=by rw [<- hX]; rfl
  have ee:X'.env=compEnvC scope cf (s2.heap.push { cls:=.type "list",dict:=none,data:=.seq ([]:List Value).toArray }).objs.size X.env:=by rw [<- hX]; rfl
  have ex:X'.xe=fun _ _=>False:=by rw [<- hX]; rfl
  have eX:X'.ex=s2.heap.objs.size :: fp:=by rw [<- hX]; rfl
  have hT':PIf X' ifs tt:=by rw [<- hX]; exact hT _ _ _ _ _
  have hE':PE X' elt te:=by rw [<- hX]; exact hE _ _ _ _ _
  have hG':PG X' tg gt:=by rw [<- hX]; exact hG _ _ _ _ _
  have back:∀ {σ':St} {H:Hp} {s':Shared} {pins':List (Addr×Obj)} {vs:List V} {h':Heap},Inv X' pins' σ' H s'->H s2.heap.objs.size=none->vs.length<=sizeLine->listAt s'.heap s2.heap.objs.size vs ->
    Heap.SameBut (s2.heap.push { cls:=.type "list",dict:=none,data:=.seq ([]:List Value).toArray }).objs.size s'.heap h'->Inv X pins σ (upd H s2.heap.objs.size (.lst vs)) { s' with heap:=h' }:=by
   intro σ' H s' pins' vs h' I
   rw [<- hX] at I
   exact comp_back I2 f2 I
  have Dex:s2.heap.objs.size∈X'.ex∨X'.s₀.heap.objs.size<=s2.heap.objs.size:=.inl (by rw [eX]; exact List.mem_cons_self)
  have DnL:s2.heap.objs.size≠X'.env.locals:=by rw [ee]; exact Nat.ne_of_lt (by show _ < (s2.heap.push _).objs.size; rw [hsz]; exact Nat.lt_succ_self _)
  have DnC:∀ y c,X'.env.cells.lookup y=some c->c≠s2.heap.objs.size:=fun y c h=>by
   rw [ee] at h
   rcases hcl y c h with ⟨_,w⟩ | ⟨_,w,_⟩
   ·exact Nat.ne_of_lt (cellLt y c w)
   ·exact Nat.ne_of_gt (by omega)
  have DnF:s2.heap.objs.size ∉ X'.fs:=fun z=>by
   rw [<- hX] at z
   obtain ⟨_,ob,e,_⟩:=I2.stack.mem (show s2.heap.objs.size∈frs X.stack from z)
   exact Nat.lt_irrefl _ (Heap.lt_size e)
  have Dfp:s2.heap.objs.size ∉ fp:=fun hb=>by
   obtain ⟨ob,e,_⟩:=Tn.obj 0 s2.heap st2 _ hb
   exact Nat.lt_irrefl _ (Heap.lt_size e)
  have pn0:X'.pn=[]:=by rw [<- hX]; rfl
  rw [<- ee]
  refine Ya9 (fun n s=>∃ i vs H σ0,Inv X' [] σ0 H s/\tn i s.heap/\(∀ b∈fp,H b=none)/\H s2.heap.objs.size=none/\listAt s.heap s2.heap.objs.size vs/\W i n vs σ0 H) ?_ m0
   ⟨0,[],H2,_,I0,st1,fun b hb=>(f2 b hb).1,I2.hok.fresh (Nat.le_refl _),hD0,w0⟩
  rintro n s ⟨i,vs,H,σ0,I,st,hf,hDn,⟨its,k,rv,eD⟩,w1⟩
  have pinned:Inv X' [(s2.heap.objs.size,({ cls:=.type "list",data:=.seq its.toArray k }:Obj))] σ0 H s:=I.pins_of fun p hp=>by
   obtain rfl:=List.mem_singleton.mp hp
   exact ⟨eD,hDn,DnL,DnF,fun v z=>by cases z⟩
  have fpp:∀ p∈[(s2.heap.objs.size,({ cls:=.type "list",data:=.seq its.toArray k }:Obj))],p.1 ∉ fp:=fun p hp=>by
   obtain rfl:=List.mem_singleton.mp hp
   exact Dfp
  rcases turn i n vs σ0 H w1 with ⟨hz,stop,fn⟩ | ⟨go,hz,step⟩
  ·have dn:=Tn.done X' eP ew eK ec i _ s _ H (notedBy (model X.prog X.w) X.A X'.env fun e s'=>RR (.ref s2.heap.objs.size) (s2.heap.push { cls:=.type "list",dict:=none,data:=.seq ([]:List Value).toArray }).objs.size (.error e) s') pinned (fpF hf fpp) st stop
   rw [eA] at dn
   refine thn dn fun r s1 ⟨hr,J1⟩=>?_
   subst hr
   have pD:=J1.pin (s2.heap.objs.size,({ cls:=.type "list",data:=.seq its.toArray k }:Obj)) (by rw [pn0]; simp)
   obtain ⟨mC,hnC,_⟩:=J1.loc
   rw [ee] at hnC
   have fC:=J1.free
   rw [ee] at fC
   refine fin _ vs H s1 mC (by rw [hsz]; exact Nat.lt_succ_self _) fC hnC hDn fn fun h' hs=>back J1 hDn hz ⟨its,k,rv,pD.1⟩ hs
  ·have im:=Tn.item X' eP ew eK ec i _ s _ H (notedBy (model X.prog X.w) X.A X'.env fun e s'=>RR (.ref s2.heap.objs.size) (s2.heap.push { cls:=.type "list",dict:=none,data:=.seq ([]:List Value).toArray }).objs.size (.error e) s') pinned (fpF hf fpp) st go
   rw [eA] at im
   refine thn im fun r s1 ⟨u,hr,h1⟩=>?_
   subst hr
   dsimp only
   refine thn h1 fun _ s3 ⟨y,H3,I3,r3,y3,st3,fr3⟩=>?_
   have I3':=I3.pinned (fpF fr3 fpp) (Tn.obj _ _ st3)
   have g:=hG' _ s3 _ H3 y u _ I3' r3 (step y H3 y3)
   rw [eP,ew,eA,ex] at g
   refine wpAny_mono g (fun _ s4 ⟨σ4,H4,I4,q4⟩=>?_) fun _ _ z=>z.elim
   have t:=hT' _ s4 _ H4 _ I4 q4
   rw [eP,ew,eA,ex] at t
   have tk':∀ {pl:List (Addr×Obj)} {σ':St} {H':Hp} {s':Shared},Inv X' (pl ++ Vag fp s3.heap) σ' H' s'->tn (i + 1) s'.heap/\∀ b∈fp,H' b=none:=fun {pl σ' H' s'} J=>by
    refine ⟨Tn.keep _ _ _ st3 fun b hb o e=>(J.pin (b,o) (List.mem_append_right _ (List.mem_append_right _ (Yp hb e)))).1,fun b hb=>?_⟩
    obtain ⟨o,e,d⟩:=Tn.obj _ _ st3 b hb
    exact (J.pin (b,o) (List.mem_append_right _ (List.mem_append_right _ (Yp hb e)))).2.1
   refine wpAny_mono t (fun b s5 ⟨H5,I5,q5⟩=>?_) fun _ _ z=>z.elim
   cases b with
   | false =>
    rw [if_neg Bool.false_ne_true] at q5 ⊢
    obtain ⟨m',hm,w5⟩:=q5
    obtain ⟨st5,fr5⟩:=tk' I5
    have pD:=I5.pin (s2.heap.objs.size,({ cls:=.type "list",data:=.seq its.toArray k }:Obj)) (by simp)
    exact ⟨m',hm,i + 1,vs,H5,σ4,I5.pins_of (fun p hp=>nomatch hp),st5,fr5,pD.2.1,⟨its,k,rv,pD.1⟩,w5⟩
   | true =>
    rw [if_pos rfl] at q5 ⊢
    have ev:=hE' _ s5 _ H5 _ I5 q5
    rw [eP,ew,eA,ex] at ev
    refine wpAny_mono ev (fun z s6 ⟨v,H6,I6,r6,q6⟩=>?_) fun _ _ z=>z.elim
    obtain ⟨m',hm,w6⟩:=q6
    obtain ⟨st6,fr6⟩:=tk' I6
    have pD:=I6.pin (s2.heap.objs.size,({ cls:=.type "list",data:=.seq its.toArray k }:Obj)) (by simp)
    have hlen:=rv.length
    refine call_meets F.slot_list_append ⟨_,pD.1,rfl⟩ F.entry_list_append (F.args_list_append_2 _ _) (PySem.list_append s2.heap.objs.size its.toArray k z (by rw [List.size_toArray]; omega)) ⟨pD.1,?_⟩
    have q:=PySem.IsL.update pD.1 (fun a=>a.push z)
    dsimp only at q
    rw [show its.toArray.push z=(its ++ [z]).toArray by simp] at q
    have kk:∀ b o,b≠s2.heap.objs.size->s6.heap.get? b=some o->(s6.heap.update s2.heap.objs.size (Obj.mapSeq fun a=>a.push z)).get? b=some o:=fun b o hb e=>(Heap.get?_update_other s6.heap _ (Ne.symm hb)).trans e
    have I7:Inv X' [] σ4 H6 { s6 with heap:=s6.heap.update s2.heap.objs.size (Obj.mapSeq fun a=>a.push z),toks:=s6.toks }:=(I6.pins_of (pins':=[]) (fun p hp=>nomatch hp)).turned kk pD.2.1 DnL Dex DnC (fun p hp=>by
     rw [pn0] at hp; exact absurd hp (by simp))
    refine ⟨m',hm,i + 1,vs ++ [v],H6,σ4,I7,Tn.keep _ _ _ st6 (fun b hb o e=>kk b o (fun zz=>Dfp (zz ▸ hb)) e),fr6,pD.2.1,⟨its ++ [z],_,rv.append (.cons r6 .nil),q⟩,w6⟩
 exact codeAny_compStart_list loop (Tn.self _ 0 _ _ _ st1 loop)
end
end L2
namespace L2
open PySem PySem.Spec PyProof.Rows
section
variable {X:Cx} {elt iter tg:Expr} {xs:List Str} {gt:TG} {ifs:List Expr} {scope:Scope} {pos:Pos} {Nc:List Str} {cap:List Nat} {tt:TT} {te:TE} {wi:TI}
theorem Zak {pins:List (Addr×Obj)} {s:Shared} {σ:St} {H:Hp} (T:CompTxt X xs scope Nc cap) (I:Inv X pins σ H s):∃ cl,closureFor scope X.env=pure cl/\(∀ y c,cl.lookup y=some c->X.env.cells.lookup y=some c)/\∀ y∈scope.names,y.2 = .free->(cl.lookup y.1).isSome=true :=
 X4 fun y hy hf=>I.ok.has y.1 (T.free y hy hf)
theorem pe_comp (T:CompTxt X xs scope Nc cap) (hi:PI X tg iter wi) (hG:∀ cl C s H ex,PG (Wt X Nc scope cl C s H ex) tg gt) (hT:∀ cl C s H ex,PIf (Wt X Nc scope cl C s H ex) ifs tt) (hE:∀ cl C s H ex,PE (Wt X Nc scope cl C s H ex) elt te)
  (hs:∀ v,foldedSetIterable iter X.env v=pure v):PE X (.ListComp elt [⟨tg,iter,ifs,0⟩] scope pos) (tComp xs.length gt cap wi tt te):=by
 intro pins s σ H Q I h
 rw [eval_ListComp]
 obtain ⟨cl,e1,e2,e3⟩:=Zak T I
 refine wpAny_comprehension_free (use:=none) rfl hs e1 T.kind T.names (thn (hi pins s σ H _ I h) fun v s1 h1=>thn h1 fun itv s2 h2=>?_)
 obtain ⟨it,fp,tn,J,H2,rfl,I2,Tn,st2,f2,W,⟨m0,w0⟩,turn⟩:=h2
 refine Xa2 (RR:=fun acc C=>compPost (model X.prog X.w) X.A X.xe none (EP X pins σ Q) acc C) T e2 e3 I2 st2 Tn f2 hG hT hE W w0 turn fun C vs H' s' m hC hHC hn hD fn back=>?_
 exact ⟨m,hn,fun h' hs'=>⟨.ref _,_,back h' hs',rfl,fn _ hD⟩⟩
theorem Va5 {i:Nat} {t:Str} {pt pos2:Pos} (T:CompTxt X xs scope Nc cap) (hi:PI X tg iter wi) (hG:∀ cl C s H ex,PG (Wt X Nc scope cl C s H ex) tg gt) (hT:∀ cl C s H ex,PIf (Wt X Nc scope cl C s H ex) ifs tt) (hE:∀ cl C s H ex,PE (Wt X Nc scope cl C s H ex) elt te)
  (hs:∀ v,foldedSetIterable iter X.env v=pure v) (hN:X.N.Nodup) (hti:X.N[i]? = some t) (htl:X.env.scope.names.lookup t=some .local)
  (hsw:swapsWith (.ListComp elt [⟨tg,iter,ifs,0⟩] scope pos) (some (.Name t pt)) pos2.line X.env=pure true) :
  PS X (.Assign [.Name t pt] (.ListComp elt [⟨tg,iter,ifs,0⟩] scope pos) pos2) (tAsg (tComp xs.length gt cap wi tt te) (Xbr i)):=by
 intro pins s σ H D I h
 rw [exec_Assign_Name_used _ _ _ _ hsw]
 obtain ⟨cl,e1,e2,e3⟩:=Zak T I
 refine wpAny_bind (wpAny_standAt (wpAny_bind ?_))
 show wpAny _ X.A (do let _ <- comprehension (.ListComp elt [⟨tg,iter,ifs,0⟩] scope pos) scope X.env _ (newList []) false (eval iter X.env) (some (assign (.Name t pt) X.env))) _ _ s
 refine wpAny_bind (wpAny_mono (wpAny_comprehension_free (use:=some (assign (.Name t pt) X.env)) (Q:=fun _ s'=>SP X pins D .next s') rfl hs e1 T.kind T.names
  (thn (hi pins s σ H _ I h) fun v s1 h1=>thn h1 fun itv s2 h2=>?_)) (fun _ s' q=>wpAny_pure (wpAny_pure q)) fun _ _ e=>e)
 obtain ⟨it,fp,tn,J,H2,rfl,I2,Tn,st2,f2,W,⟨m0,w0⟩,turn⟩:=h2
 refine Xa2 (RR:=fun acc C=>compPost (model X.prog X.w) X.A X.xe (some (assign (.Name t pt) X.env)) (fun _ s'=>SP X pins D .next s') acc C) T e2 e3 I2 st2 Tn f2 hG hT hE W w0 turn fun C vs H' s' m hC hHC hn hD fn back=>?_
 have I3:Inv X pins σ (upd H' s2.heap.objs.size (.lst vs)) s':=back s'.heap (.refl ..)
 have hLC:X.env.locals≠C:=Nat.ne_of_lt (Nat.lt_trans I2.lt hC)
 have hDC:C≠s2.heap.objs.size:=Nat.ne_of_gt hC
 show wpAny _ X.A (assign (.Name t pt) X.env (.ref s2.heap.objs.size)) _ _ s'
 refine wpAny_assign_Name (Zag I3 hN hti (.inl htl) (v:=.ref s2.heap.objs.size) rfl (fun s4 I4 ⟨a,sb,ha⟩=>?_) (.inr htl))
 have hCa:C≠a:=by
  rcases ha with rfl | ha
  ·exact Ne.symm hLC
  ·obtain ⟨v,q⟩:=I2.cell t a ha
   exact Nat.ne_of_gt (Nat.lt_trans q.lt hC)
 refine ⟨m,hn.sameBut sb hCa,fun h' sb'=>⟨_,_,I4.turned (t':=s4.toks) (it:=C) (fun b o hb e=>(sb'.2 b hb).trans e) (by rw [Vb hDC]; exact hHC) (Ne.symm hLC) (.inr ?_) (fun y c e=>?_) (fun p hp=>?_),fn _ hD⟩⟩
 ·exact Nat.le_trans I2.sz (Nat.le_of_lt hC)
 ·obtain ⟨v,q⟩:=I2.cell y c e
  exact Nat.ne_of_lt (Nat.lt_trans q.lt hC)
 ·exact Nat.ne_of_lt (Nat.lt_trans (Heap.lt_size (I2.pin p hp).1) hC)
end
end L2
end
section
namespace DW
open PySem PySem.Spec PyProof.Rows L2
noncomputable def Its (z:Str):L2.It:=⟨fun i _=>i < z.cps.size,fun i H x H'=>H'=H/\∃ c,z.cps[i]? = some c/\x = .str ⟨#[c]⟩,fun i _=>z.cps.size<=i⟩
theorem Waw {cb:Bool} (hcb:cb=true) {P:Program} {w:World} {K:PySem.W.Frag} {tg:Expr} (it:Addr) (z:Str) (t:Tok) (ty:String) (hty:ty = "str_ascii_iterator"∨ty = "str_iterator"):Turn cb P w K tg (Its z) [it] it (fun i h=>h.IsStrIter it ty z t i):=by
 have hn:["enumerate","zip","dict_itemiterator","dict_reverseitemiterator","odict_iterator","itertools.zip_longest","itertools.pairwise"].contains ty=false:=by
  rcases hty with rfl | rfl <;> decide
 have W:∀ A:Around,A.handled=none->Walks P w A it [it] [it] z.cps.size (SignAt z) (fun i h=>h.IsStrIter it ty z t i):=fun A hA=>by
  rcases hty with rfl | rfl
  ·exact Walks.strAscii hA it z t
  ·exact Walks.strWide hA it z t
 refine ⟨by simp,fun i h st b hb=>?_,fun i h h' st k=>?_,?_,?_,?_⟩
 ·obtain rfl:=List.mem_singleton.mp hb
  obtain ⟨o,e,_,d⟩:=st
  exact ⟨o,e,fun v q=>by rw [d] at q; cases q⟩
 ·obtain ⟨o,e,r⟩:=st
  exact ⟨o,k it (by simp) o e,r⟩
 ·intro X hP hw hK hc i pins s σ H E I hf st hg
  subst hP hw hK
  obtain ⟨f0,f1,f2,f3,f4,f5⟩:=hf it (by simp)
  refine (W X.A (I.ok.hd (hc.trans hcb))).item i s _ _ hg st fun v h' tk hv st' kk=>?_
  obtain ⟨c,u,e1,rfl⟩:=hv
  have I1:Inv X pins σ H { s with heap:=h',toks:=tk }:=I.turned (fun b o hb e=>kk b o (by simpa using hb) e) f0 f1 f3 f4 f5
  obtain ⟨o,e,c1,d1⟩:=id st'
  exact ⟨_,rfl,Var (s:={ s with heap:=h',toks:=tk }) e c1 d1 hn ⟨.str ⟨#[c]⟩,H,I1,⟨u,rfl⟩,⟨rfl,c,e1,rfl⟩,st',fun b hb=>(hf b hb).1⟩⟩
 ·intro X hP hw hK hc i pins s σ H E I hf st hg
  subst hP hw hK
  obtain ⟨f0,f1,f2,f3,f4,f5⟩:=hf it (by simp)
  have hi:z.cps.size<=i:=hg
  rcases hty with rfl | rfl
  ·exact wpAny_pyNext_ascii_end (I.ok.hd (hc.trans hcb)) st (by simp [hi]) fun h' eb=>⟨rfl,I.turned (t':=s.toks) (fun b o hb e=>eb b o hb e) f0 f1 f3 f4 f5⟩
  ·exact wpAny_pyNext_wide_end (I.ok.hd (hc.trans hcb)) st (by simp [hi]) fun h' eb=>⟨rfl,I.turned (t':=s.toks) (fun b o hb e=>eb b o hb e) f0 f1 f3 f4 f5⟩
 ·intro A i s Q E st q
  rcases hty with rfl | rfl
  ·exact wpAny_pyIter_striter_ascii st q
  ·exact wpAny_pyIter_striter_wide st q
noncomputable def Vam (K:PySem.W.Frag) (J:L2.It) (ds:List D) (g:Mem->Prop) (H0:Hp) (θ0:List Addr) (μ0:Mem):Prop :=
 ds.length<=sizeLine/\∀ (i:Nat) (H:Hp) (θ:List Addr) (μ:Mem),WOk K H θ μ->Grow H0 θ0 μ0 H θ μ->g μ ->
  (i < ds.length->J.go i H/\∀ x H',J.yld i H x H'->WOk K H' θ μ/\Grow H θ μ H' θ μ/\∃ d,ds[i]? = some d/\Rp K H' θ μ d x)/\(i=ds.length->J.stop i H)
noncomputable abbrev WI:=Rho->Mem->QI->Prop
noncomputable def LI (K:PySem.W.Frag) (w:WI):TI:=fun σ H R=>∃ ρ θ μ Qi,Sim K σ H ρ θ μ/\w ρ μ Qi /\
 ∀ ds g (J:L2.It) H' θ' μ',WOk K H' θ' μ'->Grow H θ μ H' θ' μ'->Vam K J ds g H' θ' μ'->Qi ds g μ'->R J H'
section
variable {K:PySem.W.Frag} {H:Hp} {θ:List Addr} {μ:Mem} {ds:List D} {a:Addr} {xs:List V}
theorem Xy (hl:ds.length<=sizeLine) (g:Mem->Prop) (h:∀ (H':Hp) (θ':List Addr) (μ':Mem),WOk K H' θ' μ'->Grow H θ μ H' θ' μ'->g μ'->∃ xs,SqL K H' a xs/\Rps K H' θ' μ' ds xs):Vam K (Itl K a) ds g H θ μ:=by
 refine ⟨hl,fun i H' θ' μ' w' gr hg=>?_⟩
 obtain ⟨xs,hx,rs⟩:=h H' θ' μ' w' gr hg
 refine ⟨fun hi=>?_,fun hi=>⟨xs,hx,by rw [hi,rs.length]; exact Nat.le_refl _⟩⟩
 obtain ⟨v,e1,e2⟩:=rs.get (i:=i) (List.getElem?_eq_getElem hi)
 refine ⟨⟨xs,v,hx,e1⟩,fun x H'' y=>?_⟩
 obtain ⟨rfl,y⟩:=y
 have:=y xs hx
 rw [e1] at this; cases this
 exact ⟨w',Grow.refl,_,List.getElem?_eq_getElem hi,e2⟩
theorem Yby (hl:ds.length<=sizeLine) (g:Mem->Prop) (h:∀ (H':Hp) (θ':List Addr) (μ':Mem),WOk K H' θ' μ'->Grow H θ μ H' θ' μ'->g μ'->∃ xs,SqT K H' a xs/\Rps K H' θ' μ' ds xs):Vam K (Itt K a) ds g H θ μ:=by
 refine ⟨hl,fun i H' θ' μ' w' gr hg=>?_⟩
 obtain ⟨xs,hx,rs⟩:=h H' θ' μ' w' gr hg
 refine ⟨fun hi=>?_,fun hi=>⟨xs,hx,by rw [hi,rs.length]; exact Nat.le_refl _⟩⟩
 obtain ⟨v,e1,e2⟩:=rs.get (i:=i) (List.getElem?_eq_getElem hi)
 refine ⟨⟨xs,v,hx,e1⟩,fun x H'' y=>?_⟩
 obtain ⟨rfl,y⟩:=y
 have:=y xs hx
 rw [e1] at this; cases this
 exact ⟨w',Grow.refl,_,List.getElem?_eq_getElem hi,e2⟩
theorem Va3 {lo:Int} {n:Nat} (hn:n<=sizeLine):Vam K (Itr lo n) (Zj lo n) (fun _=>True) H θ μ:=by
 refine ⟨by simpa [Zj] using hn,fun i H' θ' μ' w' gr _=>⟨fun hi=>?_,fun hi=>?_⟩⟩
 ·have hi':i < n:=by simpa [Zj] using hi
  refine ⟨hi',fun x H'' y=>?_⟩
  obtain ⟨rfl,rfl⟩:=y
  exact ⟨w',Grow.refl,.int (lo + (i:Int)),by simp [Zj,hi'],Yd⟩
 ·have hi':i=n:=by simpa [Zj] using hi
  show n<=i
  omega
theorem Xby {x:List Nat} (hx:x.length<=sizeLine):Vam K (Its ⟨x.toArray⟩) (chars x) (fun _=>True) H θ μ:=by
 refine ⟨by simpa [chars] using hx,fun i H' θ' μ' w' gr _=>⟨fun hi=>?_,fun hi=>?_⟩⟩
 ·have hi':i < x.length:=by simpa [chars] using hi
  refine ⟨by show i < x.toArray.size; simpa using hi',fun y H'' q=>?_⟩
  obtain ⟨rfl,c,e1,rfl⟩:=q
  have e1':x[i]? = some c:=by simpa using e1
  exact ⟨w',Grow.refl,.str [c],by simp [chars,e1'],Wr (x:=[c]) (by rw [sizeLine_eq]; simp)⟩
 ·have hi':i=x.length:=by simpa [chars] using hi
  show x.toArray.size<=i
  simp [hi']
end
noncomputable def Itd (a:Addr) (o:Obj) (kvs:List (Key×V)):L2.It :=
 ⟨fun i H=>H a=some (.frz o (.dK kvs))/\i < kvs.length,fun i H x H'=>H'=H/\∃ kv,kvs[i]? = some kv/\x=kV kv.1,fun i H=>H a=some (.frz o (.dK kvs))/\kvs.length<=i⟩
theorem Ybn {κ:Type}:∀ {kvs:List (κ×V)} {vs:List (κ×Value)} {i:Nat} {kv:κ×V},KV kvs vs->kvs[i]? = some kv->∃ u,vs[i]? = some (kv.1,u)
 | _,_,i,_,.nil,e=>by simp at e
 | _,_,0,_,.cons r _,e=>by simp at e; subst e; exact ⟨_,by rw [List.getElem?_cons_zero,r.1]⟩
 | _,_,i + 1,kv,.cons _ t,e=>by
  obtain ⟨u,h1⟩:=Ybn (i:=i) (kv:=kv) t (by simpa using e)
  exact ⟨u,by simpa using h1⟩
theorem Wad {X:Cx} {pins:List (Addr×Obj)} {σ:L2.St} {H:Hp} {s:Shared} {a:Addr} {o:Obj} {kvs:List (Key×V)} {es:Array DictEntry} {ep:Nat} (I:Inv X pins σ H s) (e:H a=some (.frz o (.dK kvs))) (hd:o.data = .dict es ep) :
  ∃ vs,KV kvs vs/\s.heap.DictAt (Ve X.prog X.w) a vs ep:=by
 obtain ⟨h1,_,_,vs,rel,o',es',ep',q1,q2,q3,q4⟩:=(show ObjOk X.prog X.w H s.heap a (.frz o (.dK kvs)) from I.hok a _ e)
 rw [h1] at q1; cases q1
 rw [hd] at q3; cases q3
 exact ⟨vs,rel,o,es,h1,q2,hd,q4⟩
theorem Xbc {cb:Bool} (hcb:cb=true) {P:Program} {w:World} {K:PySem.W.Frag} {tg:Expr} (a it:Addr) (o:Obj) (kvs:List (Key×V)) (es:Array DictEntry) (ep:Nat) (hd:o.data = .dict es ep) :
  Turn cb P w K tg (Itd a o kvs) [it] it (fun i h=>h.IsKeyIter it a i kvs.length ep) where
 mem:=by simp
 obj:=fun i h st b hb=>by
  have e:b=it:=by simpa using hb
  subst e
  obtain ⟨o,e,c,d⟩:=st
  exact ⟨o,e,fun v z=>by rw [d] at z; cases z⟩
 keep:=fun i h h' st k=>by
  obtain ⟨o,e,c,d⟩:=st
  exact ⟨o,k it (by simp) o e,c,d⟩
 item:=by
  intro X hP hw hK hc i pins s σ H E I hf st hg
  subst hP hw hK
  obtain ⟨e,hi⟩:=hg
  obtain ⟨vs,rel,dat⟩:=Wad I e hd
  obtain ⟨f0,f1,f2,f3,f4,f5⟩:=hf it (by simp)
  have hlen:=rel.length
  obtain ⟨u,hu⟩:=Ybn rel (List.getElem?_eq_getElem hi)
  refine wpAny_pyNext_dict_item (hlen ▸ st) dat hu fun key h' hk st' sb=>?_
  have I1:Inv X pins σ H { s with heap:=h' }:=I.turned (t':=s.toks) (fun b o hb e=>(sb.2 b hb).trans e) f0 f1 f3 f4 f5
  obtain ⟨o',e',c,d⟩:=id st'
  refine ⟨key,rfl,Var (s:={ s with heap:=h' }) e' c d (by decide) ⟨kV (kvs[i]).1,H,I1,?_,⟨rfl,kvs[i],List.getElem?_eq_getElem hi,rfl⟩,hlen ▸ st',fun b hb=>(hf b hb).1⟩⟩
  rcases Wc hk with ⟨z,tt,e1,rfl⟩ | ⟨z,tt,e1,rfl⟩
  ·rw [e1]; exact ⟨tt,rfl⟩
  ·rw [e1]; exact ⟨tt,rfl⟩
 done:=by
  intro X hP hw hK hc i pins s σ H E I hf st hg
  subst hP hw hK
  obtain ⟨e,hi⟩:=hg
  obtain ⟨vs,rel,dat⟩:=Wad I e hd
  obtain ⟨f0,f1,f2,f3,f4,f5⟩:=hf it (by simp)
  have hlen:=rel.length
  exact wpAny_pyNext_dict_end (I.ok.hd (hc.trans hcb)) (hlen ▸ st) dat (List.getElem?_eq_none (by omega)) fun h' eb=>⟨rfl,I.turned (t':=s.toks) (fun b o hb e=>eb b o hb e) f0 f1 f3 f4 f5⟩
 self:=fun _ _ _ _ _ st h=>wpAny_pyIter_keyiter st h
noncomputable def Itw (a:Addr) (o:Obj) (is:List Int):L2.It :=
 ⟨fun i H=>(∃ kvs:List (Key×V),H a=some (.frz o (.dK kvs))/\kvs.map (·.1)=is.map Sum.inl)/\i < is.length,fun i H x H'=>H'=H/\∃ z,is[i]? = some z/\x = .int z,fun i H=>(∃ kvs:List (Key×V),H a=some (.frz o (.dK kvs))/\kvs.map (·.1)=is.map Sum.inl)/\is.length<=i⟩
theorem Ybc {cb:Bool} (hcb:cb=true) {P:Program} {w:World} {K:PySem.W.Frag} {tg:Expr} (a it:Addr) (o:Obj) (is:List Int) (es:Array DictEntry) (ep:Nat) (hd:o.data = .dict es ep) :
  Turn cb P w K tg (Itw a o is) [it] it (fun i h=>h.IsKeyIter it a i is.length ep) where
 mem:=by simp
 obj:=fun i h st b hb=>by
  have e:b=it:=by simpa using hb
  subst e
  obtain ⟨o,e,c,d⟩:=st
  exact ⟨o,e,fun v z=>by rw [d] at z; cases z⟩
 keep:=fun i h h' st k=>by
  obtain ⟨o,e,c,d⟩:=st
  exact ⟨o,k it (by simp) o e,c,d⟩
 item:=by
  intro X hP hw hK hc i pins s σ H E I hf st hg
  subst hP hw hK
  obtain ⟨⟨kvs,e,ek⟩,hi⟩:=hg
  have hli:kvs.length=is.length:=by simpa using congrArg List.length ek
  obtain ⟨vs,rel,dat⟩:=Wad I e hd
  obtain ⟨f0,f1,f2,f3,f4,f5⟩:=hf it (by simp)
  have hlen:vs.length=is.length:=by rw [<- rel.length,hli]
  obtain ⟨u,hu⟩:=Ybn rel (List.getElem?_eq_getElem (hli ▸ hi:i < kvs.length))
  refine wpAny_pyNext_dict_item (hlen ▸ st) dat hu fun key h' hk st' sb=>?_
  have I1:Inv X pins σ H { s with heap:=h' }:=I.turned (t':=s.toks) (fun b o hb e=>(sb.2 b hb).trans e) f0 f1 f3 f4 f5
  obtain ⟨o',e',c,d⟩:=id st'
  refine ⟨key,rfl,Var (s:={ s with heap:=h' }) e' c d (by decide) ⟨.int is[i],H,I1,?_,⟨rfl,is[i],List.getElem?_eq_getElem hi,rfl⟩,hlen ▸ st',fun b hb=>(hf b hb).1⟩⟩
  have ei:(kvs[i]'(hli ▸ hi)).1=Sum.inl is[i]:=by
   have h1:(kvs.map (·.1))[i]? = (is.map Sum.inl)[i]?:=by rw [ek]
   simpa [hi,(hli ▸ hi:i < kvs.length)] using h1
  have hk:Wai (Sum.inl is[i]) key=true:=by rw [<- ei]; exact hk
  rcases Wc hk with ⟨z,tt,e1,rfl⟩ | ⟨z,tt,e1,rfl⟩
  ·cases e1; exact ⟨tt,rfl⟩
  ·cases e1
 done:=by
  intro X hP hw hK hc i pins s σ H E I hf st hg
  subst hP hw hK
  obtain ⟨⟨kvs,e,ek⟩,hi⟩:=hg
  have hli:kvs.length=is.length:=by simpa using congrArg List.length ek
  obtain ⟨vs,rel,dat⟩:=Wad I e hd
  obtain ⟨f0,f1,f2,f3,f4,f5⟩:=hf it (by simp)
  have hlen:vs.length=is.length:=by rw [<- rel.length,hli]
  exact wpAny_pyNext_dict_end (I.ok.hd (hc.trans hcb)) (hlen ▸ st) dat (List.getElem?_eq_none (by omega)) fun h' eb=>⟨rfl,I.turned (t':=s.toks) (fun b o hb e=>eb b o hb e) f0 f1 f3 f4 f5⟩
 self:=fun _ _ _ _ _ st h=>wpAny_pyIter_keyiter st h
noncomputable def Itx (a:Addr) (o:Obj) (bs:List Addr):L2.It :=
 ⟨fun i H=>(∃ u,H a=some (.frz o u))/\i < bs.length,fun i H x H'=>H'=H/\∃ b,bs[i]? = some b/\x = .ref b,fun i H=>(∃ u,H a=some (.frz o u))/\bs.length<=i⟩
theorem Vbb {cb:Bool} (hcb:cb=true) {P:Program} {w:World} {K:PySem.W.Frag} {tg:Expr} (a it:Addr) (o:Obj) (bs:List Addr) (es:Array DictEntry) (ep:Nat) (hd:o.data = .dict es ep) (hk:es.toList.map (·.key)=bs.map Value.ref) :
  Turn cb P w K tg (Itx a o bs) [it] it (fun i h=>h.IsKeyIter it a i es.size ep):=by
 have hsz:es.size=bs.length:=by have:=congrArg List.length hk; simpa using this
 refine ⟨by simp,fun i h st b hb=>?_,fun i h h' st k=>?_,?_,?_,fun _ _ _ _ _ st h=>wpAny_pyIter_keyiter st h⟩
 ·obtain rfl:=List.mem_singleton.mp hb
  obtain ⟨o,e,_,d⟩:=st
  exact ⟨o,e,fun v z=>by rw [d] at z; cases z⟩
 ·obtain ⟨o,e,c,d⟩:=st
  exact ⟨o,k it (by simp) o e,c,d⟩
 ·intro X hP hw hK hc i pins s σ H E I hf st hg
  subst hP hw hK
  obtain ⟨⟨u,e⟩,hi⟩:=hg
  obtain ⟨f0,f1,f2,f3,f4,f5⟩:=hf it (by simp)
  have ho:s.heap.get? a=some o:=(show ObjOk X.prog X.w H s.heap a (.frz o u) from I.hok a _ e).1
  have hi':i < es.size:=by omega
  have hkey:es[i].key = .ref bs[i]:=by
   have h1:(es.toList.map (·.key))[i]? = some es[i].key:=by simp [hi']
   rw [hk] at h1
   simp [hi] at h1
   exact h1.symm
  refine dit_item st ho hd hi' fun h' st' sb=>?_
  have I1:Inv X pins σ H { s with heap:=h' }:=I.turned (t':=s.toks) (fun b o hb e=>(sb.2 b hb).trans e) f0 f1 f3 f4 f5
  obtain ⟨o',e',c,d⟩:=id st'
  rw [hkey]
  exact ⟨_,rfl,Var (s:={ s with heap:=h' }) e' c d (by decide) ⟨.ref bs[i],H,I1,rfl,⟨rfl,bs[i],List.getElem?_eq_getElem hi,rfl⟩,st',fun b hb=>(hf b hb).1⟩⟩
 ·intro X hP hw hK hc i pins s σ H E I hf st hg
  subst hP hw hK
  obtain ⟨⟨u,e⟩,hi⟩:=hg
  obtain ⟨f0,f1,f2,f3,f4,f5⟩:=hf it (by simp)
  have ho:s.heap.get? a=some o:=(show ObjOk X.prog X.w H s.heap a (.frz o u) from I.hok a _ e).1
  exact dit_end (I.ok.hd (hc.trans hcb)) st ho hd (by omega) fun h' eb=>⟨rfl,I.turned (t':=s.toks) (fun b o hb e=>eb b o hb e) f0 f1 f3 f4 f5⟩
section
variable {X:Cx} {tg:Expr}
theorem pi_seqD {l:Expr} {wl:WE} (hcl:X.calm=true) (hl:PE X l (LE X.K wl)):PI X tg l (LI X.K fun ρ μ Q=>wl ρ μ fun d μ1=>wSeq d μ1 Q):=by
 intro pins s σ H R I h
 have big:∀ (x:V) (H1:Hp) (s1:Shared),Inv X pins σ H1 s1->True:=fun _ _ _ _=>trivial
 obtain ⟨ρ,θ,μ,Qi,sm,h,f⟩:=h
 refine thn (hl pins s σ H (fun x H1=>∃ d θ1 μ1,WOk X.K H1 θ1 μ1/\Grow H θ μ H1 θ1 μ1/\Rp X.K H1 θ1 μ1 d x/\wSeq d μ1 Qi) I ⟨ρ,θ,μ,_,sm,h,fun d v H1 θ1 μ1 w1 g1 r1 h1=>⟨d,θ1,μ1,w1,g1,r1,h1⟩⟩) fun v s1 ⟨x,H1,I1,r1,d,θ1,μ1,w1,g1,rd,hq⟩=>?_
 have pe:∀ (R':L2.It->Hp->Prop),((∃ a,x = .ref a/\(∃ xs,SqL X.K H1 a xs)/\R' (Itl X.K a) H1)∨(∃ a,x = .ref a/\(∃ xs,SqT X.K H1 a xs)/\R' (Itt X.K a) H1)∨∃ z,x = .str z/\R' (Its z) H1) ->
   wpAny (model X.prog X.w) X.A (pyIter v) (PIE X pins σ tg R') X.xe s1:=fun R' q1=>by
  rcases q1 with ⟨a,rfl,⟨xs,hq⟩,q⟩ | ⟨a,rfl,⟨xs,hq⟩,q⟩ | ⟨z,rfl,q⟩
  ·cases r1
   obtain ⟨its,rv,p,hz⟩:=I1.list hq
   refine wpAny_pyIter_list p.isList ?_
   refine ⟨s1.heap.objs.size,[s1.heap.objs.size],_,_,H1,rfl,I1.kept (t':=s1.toks) fun b o e=>Heap.get?_push_of_some _ e,Zbc hcl a _,⟨_,Heap.get?_push_size _ rfl,rfl,rfl⟩,fun b hb=>?_,q⟩
   obtain rfl:=List.mem_singleton.mp hb
   exact I1.fpOk (Nat.le_refl _) (I1.hok.fresh (Nat.le_refl _))
  ·cases r1
   obtain ⟨its,rv,p,hz⟩:=I1.tuple hq
   refine wpAny_pyIter_tuple (show s1.heap.IsTuple a its.toArray from p) ?_
   refine ⟨s1.heap.objs.size,[s1.heap.objs.size],_,_,H1,rfl,I1.kept (t':=s1.toks) fun b o e=>Heap.get?_push_of_some _ e,Wa4 hcl a _,⟨_,Heap.get?_push_size _ rfl,rfl,rfl⟩,fun b hb=>?_,q⟩
   obtain rfl:=List.mem_singleton.mp hb
   exact I1.fpOk (Nat.le_refl _) (I1.hok.fresh (Nat.le_refl _))
  ·obtain ⟨t,rfl⟩:=r1
   have fp:∀ b∈[s1.heap.objs.size],FpOk X pins H1 b:=fun b hb=>by
    obtain rfl:=List.mem_singleton.mp hb
    exact I1.fpOk (Nat.le_refl _) (I1.hok.fresh (Nat.le_refl _))
   cases ha:z.cps.all (· < 128) with
   | false =>
    refine wpAny_pyIter_wide ha ?_
    exact ⟨s1.heap.objs.size,[s1.heap.objs.size],_,_,H1,rfl,I1.kept (t':=s1.toks) fun b o e=>Heap.get?_push_of_some _ e,Waw hcl _ z t _ (.inr rfl),⟨_,Heap.get?_push_size _ rfl,rfl,rfl⟩,fp,q⟩
   | true =>
    refine wpAny_pyIter_ascii ha ?_
    exact ⟨s1.heap.objs.size,[s1.heap.objs.size],_,_,H1,rfl,I1.kept (t':=s1.toks) fun b o e=>Heap.get?_push_of_some _ e,Waw hcl _ z t _ (.inl rfl),⟨_,Heap.get?_push_size _ rfl,rfl,rfl⟩,fp,q⟩
 unfold wSeq at hq
 split at hq
 ·rename_i ds
  obtain ⟨a,xs,rfl,h1,nl,rs⟩:=Wj rd
  have hz:ds.length<=sizeLine:=by obtain ⟨_,_,_,hz⟩:=I1.list (SqL.of h1); rw [rs.length]; exact hz
  exact pe R (.inl ⟨a,rfl,⟨xs,.of h1⟩,f ds _ _ H1 θ1 μ1 w1 g1 (Xy hz _ fun H' θ' μ' w' gr _=>⟨xs,.of (gr.keep a _ h1 nl).1,gr.reps rs⟩) hq⟩)
 ·rename_i ds
  obtain ⟨a,xs,rfl,h1,nl,rs⟩:=Zf rd
  have hz:ds.length<=sizeLine:=by obtain ⟨_,_,_,hz⟩:=I1.tuple (SqT.of h1); rw [rs.length]; exact hz
  exact pe R (.inr (.inl ⟨a,rfl,⟨xs,.of h1⟩,f ds _ _ H1 θ1 μ1 w1 g1 (Yby hz _ fun H' θ' μ' w' gr _=>⟨xs,.of (gr.keep a _ h1 nl).1,gr.reps rs⟩) hq⟩))
 ·rename_i ds
  obtain ⟨a,xs,rfl,h1,rs⟩:=Va0 rd
  have hz:ds.length<=sizeLine:=by obtain ⟨_,_,_,hz⟩:=I1.list (Xa3 h1); rw [rs.length]; exact hz
  refine pe R (.inl ⟨a,rfl,⟨xs,Xa3 h1⟩,f ds _ _ H1 θ1 μ1 w1 g1 (Xy hz _ fun H' θ' μ' w' gr _=>⟨xs,?_,gr.reps rs⟩) hq⟩)
  rcases h1 with ⟨o,h1,h2⟩ | h1
  ·exact .inl (.inr ⟨o,(gr.keep a _ h1 h2).1⟩)
  ·exact .inr h1
 ·rename_i z
  obtain ⟨rfl,hz⟩:=Vc rd
  exact pe R (.inr (.inr ⟨_,rfl,f _ _ _ H1 θ1 μ1 w1 g1 (Xby hz) hq⟩))
 ·rename_i ks ds
  obtain ⟨is,rfl,hq⟩:=hq
  obtain ⟨a,o,kvs,rfl,h1,nl,h2,h3⟩:=Ybq rd
  cases r1
  obtain ⟨q0,hz,hs,vs,rel,o',es,ep,q1,q2,q3,q4⟩:=(show ObjOk X.prog X.w H1 s1.heap a (.frz o (.dK kvs)) from I1.hok a _ h1)
  rw [q0] at q1; cases q1
  have hlen:=rel.length
  have hli:kvs.length=is.length:=by simpa using congrArg List.length h2
  refine wpAny_pyIter_dict hs (⟨o,es,q0,q2,q3,q4⟩:s1.heap.DictAt (Ve X.prog X.w) a vs ep) ?_
  refine ⟨s1.heap.objs.size,[s1.heap.objs.size],_,_,H1,rfl,I1.kept (t':=s1.toks) fun b o e=>Heap.get?_push_of_some _ e,Xbc hcl a _ o kvs es ep q3,⟨_,Heap.get?_push_size _ rfl,rfl,by rw [hlen]; rfl⟩,fun b hb=>?_,f (is.map .int) (fun _=>True) (Itd a o kvs) H1 θ1 μ1 w1 g1 ⟨by simpa [<- hli] using hz,fun i H' θ' μ' w' gr _=>⟨fun hi=>⟨⟨(gr.keep a _ h1 nl).1,by simpa [hli] using hi⟩,fun y H'' q=>?_⟩,fun hi=>⟨(gr.keep a _ h1 nl).1,by simp at hi; omega⟩⟩⟩ hq⟩
  ·obtain rfl:=List.mem_singleton.mp hb
   exact I1.fpOk (Nat.le_refl _) (I1.hok.fresh (Nat.le_refl _))
  ·obtain ⟨rfl,kv,e1,rfl⟩:=q
   have hi':i < is.length:=by simpa using hi
   refine ⟨w',Grow.refl,.int is[i],by simp [hi'],?_⟩
   have e2:(kvs.map (·.1))[i]? = some kv.1:=by rw [List.getElem?_map,e1]; rfl
   rw [h2] at e2
   simp [hi',keyOf] at e2
   rw [<- e2]
   exact Yd
 ·rename_i n
  obtain ⟨a,rfl,ha⟩:=Ye rd
  split at hq
  ·rename_i ds hn
   obtain ⟨xs,h1,rs⟩:=w1.list hn ha
   have hz:ds.length<=sizeLine:=by obtain ⟨_,_,_,hz⟩:=I1.list (SqL.of h1); rw [rs.length]; exact hz
   refine pe R (.inl ⟨a,rfl,⟨xs,.of h1⟩,f ds _ _ H1 θ1 μ1 w1 g1 (Xy hz _ fun H' θ' μ' w' gr hg=>?_) hq⟩)
   obtain ⟨ys,h2,rs2⟩:=w'.list hg (gr.pre n a ha)
   exact ⟨ys,.of h2,rs2⟩
  ·rename_i o ks ds hn
   obtain ⟨is,rfl,hq⟩:=hq
   cases r1
   obtain ⟨kvs,h1,h2,h3⟩:=w1.cell n _ a hn ha
   obtain ⟨q0,hz,hs,xs,rel,o',es,ep,q1,q2,q3,q4,q5⟩:=(show ObjOk X.prog X.w H1 s1.heap a (.frz o (.dT kvs)) from I1.hok a _ h1)
   rw [q0] at q1; cases q1
   have ev:es.toList.map (·.key)=(xs.map fun q=>q.2.1).map Value.ref:=by rw [q4,List.map_map,List.map_map]; rfl
   have lx:xs.length=is.length:=by
    have e1:=Paired.length rel
    have e2:=congrArg List.length h2
    simp at e2
    omega
   have hes:es.size=xs.length:=by have:=congrArg List.length ev; simpa using this
   refine dit_new hs q0 q2 q3 ?_
   refine ⟨s1.heap.objs.size,[s1.heap.objs.size],_,_,H1,rfl,I1.kept (t':=s1.toks) fun b o e=>Heap.get?_push_of_some _ e,Vbb hcl a _ o (xs.map fun q=>q.2.1) es ep q3 ev,⟨_,Heap.get?_push_size _ rfl,rfl,rfl⟩,fun b hb=>?_,f (is.map tI) _ (Itx a o (xs.map fun q=>q.2.1)) H1 θ1 μ1 w1 g1 ⟨?_,fun i H' θ' μ' w' gr hg=>?_⟩ hq⟩
   ·obtain rfl:=List.mem_singleton.mp hb
    exact I1.fpOk (Nat.le_refl _) (I1.hok.fresh (Nat.le_refl _))
   ·have e1:=Paired.length rel
    simp; omega
   ·obtain ⟨kvs',h1',h2',h3'⟩:=w'.cell n _ a hg (gr.pre n a ha)
    have keep:∀ (j:Nat) (q:List Key×Addr×Value) (l:List Int),xs[j]? = some q->is[j]? = some l->H' q.2.1=some (.tup (l.map V.int)):=fun j q l e1 e2=>by
     have h5:=(Xbn w1 rel h2).2 j q l e1 e2
     exact (gr.keep _ _ h5 (Vbc w1 h5)).1
    have hH:∃ u,H' a=some (.frz o u):=⟨_,h1'⟩
    refine ⟨fun hi=>?_,fun hi=>⟨hH,by simp at hi; simp; omega⟩⟩
    have hi':i < is.length:=by simpa using hi
    have hix:i < xs.length:=by omega
    refine ⟨⟨hH,by simpa using hix⟩,fun y H'' q=>?_⟩
    obtain ⟨rfl,b,e1,rfl⟩:=q
    have hb:b=xs[i].2.1:=by simp [hix] at e1; exact e1.symm
    subst hb
    have h5:=keep i xs[i] is[i] (List.getElem?_eq_getElem hix) (List.getElem?_eq_getElem hi')
    refine ⟨w',Grow.refl,tI is[i],by simp [hi'],?_⟩
    unfold tI Rep
    exact ⟨_,_,rfl,h5,Vbc w' h5,W2 _⟩
  ·rename_i o ks ds hn
   obtain ⟨is,rfl,hq⟩:=hq
   cases r1
   obtain ⟨kvs,h1,h2,h3⟩:=w1.cell n _ a hn ha
   obtain ⟨q0,hz,hs,vs,rel,o',es,ep,q1,q2,q3,q4⟩:=(show ObjOk X.prog X.w H1 s1.heap a (.frz o (.dK kvs)) from I1.hok a _ h1)
   rw [q0] at q1; cases q1
   have hlen:=rel.length
   have hli:kvs.length=is.length:=by simpa using congrArg List.length h2
   have kq:∀ {kvs':List (Key×V)},kvs'.map (·.1)=(is.map Sum.inl).map keyOf->kvs'.map (·.1)=kvs.map (·.1):=fun q=>q.trans h2.symm
   refine wpAny_pyIter_dict hs (⟨o,es,q0,q2,q3,q4⟩:s1.heap.DictAt (Ve X.prog X.w) a vs ep) ?_
   refine ⟨s1.heap.objs.size,[s1.heap.objs.size],_,_,H1,rfl,I1.kept (t':=s1.toks) fun b o e=>Heap.get?_push_of_some _ e,Ybc hcl a _ o is es ep q3,⟨_,Heap.get?_push_size _ rfl,rfl,by rw [<- hlen,hli]; rfl⟩,fun b hb=>?_,f (is.map .int) _ (Itw a o is) H1 θ1 μ1 w1 g1 ⟨by simpa [<- hli] using hz,fun i H' θ' μ' w' gr hg=>?_⟩ hq⟩
   ·obtain rfl:=List.mem_singleton.mp hb
    exact I1.fpOk (Nat.le_refl _) (I1.hok.fresh (Nat.le_refl _))
   ·obtain ⟨kvs',h1',h2',h3'⟩:=w'.cell n _ a hg (gr.pre n a ha)
    refine ⟨fun hi=>⟨⟨⟨kvs',h1',by rw [h2',List.map_map]; rfl⟩,by simpa using hi⟩,fun y H'' q=>?_⟩,fun hi=>⟨⟨kvs',h1',by rw [h2',List.map_map]; rfl⟩,by simp at hi; omega⟩⟩
    obtain ⟨rfl,z,e1,rfl⟩:=q
    have hi':i < is.length:=by simpa using hi
    refine ⟨w',Grow.refl,.int z,by simp [e1],Yd⟩
  ·exact hq.elim
 ·exact hq.elim
theorem Wb5 {a:Expr} {ws:WA} {y:Str} {p pos:Pos} (ey:y=Str.ofString "range") (hg:Gl X y) (hm:X.mg y=none) (ha:PA X [a] (LA X.K ws)) (hs:starEach [a] X.env=[(false,eval a X.env)]) :
  PI X tg (.Call (.Name y p) [a] [] pos) (LI X.K fun ρ μ Q=>ws ρ μ fun ds μ1=>wRng 1 ds μ1 Q):=by
 subst ey
 intro pins s σ H R I h
 refine Wbh (tg:=tg) hg hm ha hs pins s σ H R I ?_
 obtain ⟨ρ,θ,μ,Qi,sm,h,f⟩:=h
 refine ⟨ρ,θ,μ,_,sm,h,fun ds vs H1 θ1 μ1 w1 g1 r1 h1=>?_⟩
 have hl:lim=16777216:=rfl
 unfold wRng at h1
 split at h1
 ·rename_i j _
  obtain ⟨v,r,rfl,r2,r3⟩:=r1.cons_inv
  cases r3.nil_inv
  cases Zb r2
  obtain ⟨k1,k2,k3⟩:=h1
  refine ⟨j,rfl,k2,by rw [hl] at k1; omega,f _ _ _ H1 θ1 μ1 w1 g1 (Va3 ?_) k3⟩
  rw [hl] at k1; rw [sizeLine_eq]; omega
 ·exact h1.elim
noncomputable def LG (K:PySem.W.Frag) (bnd:D->Rho->(Rho->Prop)->Prop):TG:=fun v σ H Q=>∃ d ρ θ μ k,Sim K σ H ρ θ μ/\Rp K H θ μ d v/\bnd d ρ k/\∀ σ' ρ',Sim K σ' H ρ' θ μ->k ρ'->Q σ' H
theorem PG.wk {t t':TG} (h:PG X tg t) (m:∀ v σ H Q,t' v σ H Q->t v σ H Q):PG X tg t':=fun pins s σ H v u Q I r hw=>h pins s σ H v u Q I r (m v σ H Q hw)
theorem Yb6 {i:Nat} {x:Str} {pos:Pos} (hN:X.N.Nodup) (hi:X.N[i]? = some x) (hx:Loc X.env.scope x) (hf:X.fn x=true∨X.env.scope.names.lookup x=some .local):PG X (.Name x pos) (LG X.K (Yo [i] false)) :=
 PG.wk (Ybi hN hi hx hf) fun v σ H Q h=>by
  obtain ⟨d,ρ,θ,μ,k,sm,rd,hb,f⟩:=h
  exact f _ _ (sm.set rd i) hb
noncomputable def Wa1:List Nat->TGs
 | []=>gNil
 | i :: is=>gCons (Xbr i) (Wa1 is)
theorem Waj {K:PySem.W.Frag} {H:Hp} {θ:List Addr} {μ:Mem} {Q:L2.St->Hp->Prop}:∀ (is:List Nat) (ds:List D) (vs:List V) (σ:L2.St) (ρ:Rho),Sim K σ H ρ θ μ->Rps K H θ μ ds vs->ds.length=is.length ->
  (∀ σ',Sim K σ' H ((is.zip ds).foldl (fun r p=>r.set p.1 (some p.2)) ρ) θ μ->Q σ' H)->Wa1 is vs σ H Q
 | [],ds,vs,σ,ρ,sm,rs,hl,f=>by
  have:ds=[]:=by simpa using hl
  subst this
  cases rs.nil_inv
  exact ⟨rfl,f σ (by simpa using sm)⟩
 | i :: is,ds,vs,σ,ρ,sm,rs,hl,f=>by
  cases ds with
  | nil=>simp at hl
  | cons d ds =>
   obtain ⟨v,r,rfl,r1,r2⟩:=rs.cons_inv
   exact ⟨v,r,rfl,Waj is ds r (σ.set i (some v)) (ρ.set i (some d)) (sm.set r1 i) r2 (by simpa using hl) (by simpa using f)⟩
theorem pg_tupD {is:List Nat} {es:List Expr} {k:Nat} {pos:Pos} (hc:X.calm=true) (h:PGs X es (Wa1 is)) (hn:(assignEach es X.env).length=is.length) (hst:(assignEach es X.env).findIdx? (·.1)=none):PG X (.Tuple es k pos) (LG X.K (Yo is true)) :=
 PG.wk (pg_tup hc h hn hst) fun v σ H Q q=>by
  obtain ⟨d,ρ,θ,μ,k,sm,rd,hb,f⟩:=q
  unfold Yo at hb
  split at hb
  ·rename_i h2; cases h2
  ·split at hb
   ·rename_i ds
    obtain ⟨a,xs,rfl,h1,_,rs⟩:=Zf rd
    exact ⟨a,xs,rfl,.of h1,by rw [<- rs.length]; exact hb.1,Waj is ds xs σ ρ sm rs hb.1 fun σ' s'=>f σ' _ s' hb.2⟩
   ·exact hb.elim
theorem ps_forD {EX:L2.St->XK} {iter:Expr} {body:List Stmt} {wi:WI} {bnd:D->Rho->(Rho->Prop)->Prop} {wb:WS} {pos:Pos} (hp:PassesOwn (model X.prog X.w) X.A X.env X.xe) (hc:X.calm=true) (hi:PI X tg iter (LI X.K wi)) (hg:PG X tg (LG X.K bnd)) (hb:PSs X body (LS X.K EX wb))
  (hs:∀ x,foldedSetIterable iter X.env x=pure x):PS X (.For tg iter body [] pos) (LS X.K EX fun Z ρ μ=>wi ρ μ fun ds g μ1=>Yan bnd wb g Z ds ρ μ1):=by
 refine PS.wk (ps_for hp hc hi hg hb hs) fun E σ H h=>?_
 obtain ⟨ρ,θ,μ,Z,sm,h,f⟩:=h
 refine ⟨ρ,θ,μ,_,sm,h,fun ds g J H1 θ1 μ1 w1 g1 wk h1=>?_⟩
 have f1:=f.mono g1
 refine ⟨fun i m σ' H'=>m=ds.length - i/\i<=ds.length/\∃ ρ' θ' μ',Sim X.K σ' H' ρ' θ' μ'/\Grow H1 θ1 μ1 H' θ' μ'/\Yan bnd wb g Z (ds.drop i) ρ' μ',⟨ds.length,by simp,Nat.zero_le _,ρ,θ1,μ1,sm.grow w1 g1,Grow.refl,by simpa using h1⟩,?_⟩
 rintro i m σ' H' ⟨rfl,hi',ρ',θ',μ',sm',gr,hl⟩
 by_cases hlt:i < ds.length
 ·right
  have e:ds.drop i=ds[i] :: ds.drop (i + 1):=List.drop_eq_getElem_cons hlt
  rw [e] at hl
  obtain ⟨hgμ,hl⟩:=hl
  obtain ⟨go,y⟩:=(wk.2 i H' θ' μ' sm'.wok gr hgμ).1 hlt
  refine ⟨go,fun σ2 H2=>∃ ρ2 θ2 μ2,Sim X.K σ2 H2 ρ2 θ2 μ2/\Grow H1 θ1 μ1 H2 θ2 μ2/\Yan bnd wb g Z (ds.drop (i + 1)) ρ2 μ2,fun σ2 H2 ⟨ρ2,θ2,μ2,s2,g2,l2⟩=>⟨ds.length - (i + 1),by omega,rfl,hlt,ρ2,θ2,μ2,s2,g2,l2⟩,fun x H'' yx=>?_⟩
  obtain ⟨w2,g2,d,ed,rd⟩:=y x H'' yx
  rw [List.getElem?_eq_getElem hlt] at ed
  cases ed
  refine ⟨ds[i],ρ',θ',μ',_,sm'.grow w2 g2,rd,hl,fun σ3 ρ3 s3 q3=>⟨ρ3,θ',μ',_,s3,q3,?_⟩⟩
  have g3:=gr.trans g2
  have f3:=f1.mono g3
  exact ⟨fun σ4 H4 ρ4 θ4 μ4 s4 g4 z4=>⟨ρ4,θ4,μ4,s4,g3.trans g4,z4⟩,f3.rt,fun σ4 H4 ρ4 θ4 μ4 s4 g4 z4=>f3.nx σ4 H4 ρ4 θ4 μ4 s4 g4 z4,fun σ4 H4 ρ4 θ4 μ4 s4 g4 z4=>⟨ρ4,θ4,μ4,s4,g3.trans g4,z4⟩,f3.xc⟩
 ·left
  have e:i=ds.length:=by omega
  subst e
  rw [List.drop_length] at hl
  obtain ⟨hgμ,hl⟩:=hl
  exact ⟨(wk.2 _ H' θ' μ' sm'.wok gr hgμ).2 rfl,f1.nx σ' H' ρ' θ' μ' sm' gr hl⟩
theorem sim_cap {K:PySem.W.Frag} {H:Hp} {θ:List Addr} {μ:Mem} {σ:L2.St} {ρ:Rho} {cap:List Nat} (n:Nat) (sm:Sim K σ H ρ θ μ):Sim K (List.replicate n none ++ capS cap σ) H (List.replicate n none ++ cap.map fun i=>(ρ[i]?).join) θ μ:=by
 refine ⟨sm.wok,by simp [capS],fun i e h=>?_⟩
 by_cases hi:i < n
 ·rw [List.getElem?_append_left (by simpa using hi),List.getElem?_replicate] at h
  split at h <;> cases h
 ·obtain ⟨j,rfl⟩:∃ j,i=n + j:=⟨i - n,by omega⟩
  rw [List.getElem?_append_right (by simp)] at h ⊢
  simp only [List.length_replicate,Nat.add_sub_cancel_left,List.getElem?_map] at h ⊢
  cases q:cap[j]? with
  | none=>rw [q] at h; cases h
  | some k =>
   rw [q] at h
   simp only [Option.map_some,Option.some.injEq] at h
   have hj:ρ[k]? = some (some e):=by
    cases z:ρ[k]? with
    | none=>rw [z] at h; cases h
    | some w=>rw [z] at h; simp only [Option.join_some] at h; rw [h]
   obtain ⟨w,e1,e2⟩:=sm.val k e hj
   refine ⟨w,?_,e2⟩
   simp only [capS,List.getElem?_map,q,Option.map_some,e1,Option.join_some]
theorem V8 (caps:Rho):∀ (ds:List D) (pre ρs:Rho),ρs.length=ds.length->((List.range' pre.length ds.length).zip ds).foldl (fun r p=>r.set p.1 (some p.2)) (pre ++ ρs ++ caps)=pre ++ ds.map some ++ caps
 | [],pre,ρs,h=>by
  have:ρs=[]:=by simpa using h
  subst this; simp
 | d :: ds,pre,ρs,h=>by
  cases ρs with
  | nil=>simp at h
  | cons r ρs =>
   have ih:=V8 caps ds (pre ++ [some d]) ρs (by simpa using h)
   simp only [List.length_append,List.length_cons,List.length_nil,Nat.zero_add] at ih
   simp only [List.length_cons,List.range'_succ,List.zip_cons_cons,List.foldl_cons]
   have e:(pre ++ r :: ρs ++ caps).set pre.length (some d)=pre ++ [some d] ++ ρs ++ caps:=by simp
   rw [e,ih]
   simp
theorem bind_CT {n:Nat} {tt:Bool} {d:D} {ρs caps:Rho} {k:Rho->Prop} (hn:tt=false->n=1) (hl:ρs.length=n) (h:bindC n tt d caps k):Yo (List.range n) tt d (ρs ++ caps) fun ρ'=>(∃ ρt:Rho,ρt.length=n/\ρ'=ρt ++ caps)/\k ρ':=by
 cases tt with
 | false =>
  cases hn rfl
  match ρs,hl with
  | [r],_=>exact ⟨⟨[some d],rfl,rfl⟩,h⟩
 | true =>
  cases d with
  | tup ds =>
   obtain ⟨h1,h2⟩:=(show ds.length=n/\k (ds.map some ++ caps) from h)
   show ds.length=(List.range n).length/\_
   have e:=V8 caps ds [] ρs (by rw [hl,h1])
   simp only [List.length_nil,List.nil_append] at e
   rw [List.range_eq_range',<- h1,e]
   refine ⟨by simp,⟨⟨ds.map some,by simp,rfl⟩,h2⟩⟩
  | _=>exact False.elim h
theorem Wbm {m:Bool} {n:Nat} {tt:Bool} {cap:List Nat} {wi:WI} {cw:WT} {ew:WE} {σ:L2.St} {H:Hp} {Q:VK} (hn:tt=false->n=1)
  (h:LE X.K (fun ρ μ Q=>wi ρ μ fun ds g μ1=>Yx (fun d k=>bindC n tt d (cap.map fun i=>(ρ[i]?).join) k) cw ew g ds [] μ1 fun vs μ2=>newL m vs μ2 Q) σ H Q):tComp n (LG X.K fun d r k=>Yo (List.range n) tt d r k) cap (LI X.K wi) (LT X.K cw) (LE X.K ew) σ H Q:=by
 obtain ⟨ρ,θ,μ,Qd,sm,h,f⟩:=h
 refine ⟨ρ,θ,μ,_,sm,h,fun ds g J H1 θ1 μ1 w1 g1 wk h1=>?_⟩
 have f1:=f.mono g1
 have sm1:=sm.grow w1 g1
 refine ⟨fun i k vs σc H'=>k=ds.length - i/\i<=ds.length/\vs.length<=i/\∃ acc θ' μ' ρs,ρs.length=n/\Sim X.K σc H' (ρs ++ cap.map fun i=>(ρ[i]?).join) θ' μ'/\Grow H1 θ1 μ1 H' θ' μ'/\Rps X.K H' θ' μ' acc vs/\Yx (fun d k=>bindC n tt d (cap.map fun i=>(ρ[i]?).join) k) cw ew g (ds.drop i) acc μ' fun vs μ2=>newL m vs μ2 Qd,
  ⟨ds.length,by simp,Nat.zero_le _,Nat.le_refl _,[],θ1,μ1,List.replicate n none,by simp,sim_cap n sm1,Grow.refl,Reps.nil,by simpa using h1⟩,?_⟩
 rintro i k vs σc H' ⟨rfl,hi,hv,acc,θ',μ',ρs,hρ,sc,gr,rs,hl⟩
 have w':=sc.wok
 have hz:=wk.1
 by_cases hlt:i < ds.length
 ·right
  have e:ds.drop i=ds[i] :: ds.drop (i + 1):=List.drop_eq_getElem_cons hlt
  rw [e] at hl
  obtain ⟨hgμ,hl⟩:=hl
  obtain ⟨go,y⟩:=(wk.2 i H' θ' μ' w' gr hgμ).1 hlt
  refine ⟨go,by omega,fun x H'' yx=>?_⟩
  obtain ⟨w2,g2,d,ed,rd⟩:=y x H'' yx
  rw [List.getElem?_eq_getElem hlt] at ed
  cases ed
  refine ⟨ds[i],_,θ',μ',_,sc.grow w2 g2,rd,bind_CT hn hρ hl,fun σ2 ρ2 s2 q2=>?_⟩
  obtain ⟨⟨ρt,ht,rfl⟩,q2⟩:=q2
  refine ⟨_,θ',μ',_,s2,q2,fun b H3 θ3 μ3 w3 g3 q3=>?_⟩
  have g23:=g2.trans g3
  cases b with
  | true =>
   rw [if_pos rfl] at q3
   dsimp only
   rw [if_pos rfl]
   refine ⟨_,θ3,μ3,_,s2.grow w3 g3,q3,fun d4 v4 H4 θ4 μ4 w4 g4 r4 q4=>?_⟩
   have g24:=g23.trans g4
   exact ⟨ds.length - (i + 1),by omega,rfl,hlt,by simp; omega,acc ++ [d4],θ4,μ4,ρt,ht,s2.grow w4 (g3.trans g4),gr.trans g24,(g24.reps rs).append (Reps.one r4),q4⟩
  | false =>
   rw [if_neg Bool.false_ne_true] at q3
   dsimp only
   rw [if_neg Bool.false_ne_true]
   exact ⟨ds.length - (i + 1),by omega,rfl,hlt,by omega,acc,θ3,μ3,ρt,ht,s2.grow w3 g3,gr.trans g23,g23.reps rs,q3⟩
 ·left
  have e:i=ds.length:=by omega
  subst e
  rw [List.drop_length] at hl
  obtain ⟨hgμ,hl⟩:=hl
  exact ⟨by omega,(wk.2 _ H' θ' μ' w' gr hgμ).2 rfl,fun p hp=>Y0 w' (f1.mono gr) rs hl hp⟩
end
end DW
end
section
set_option maxHeartbeats 2000000
namespace DW
open PySem PySem.Spec PyProof.Rows L2
section
variable {X:Cx}
end
end DW
end
section
set_option maxHeartbeats 2000000
namespace DW
open PySem PySem.Spec PyProof.Rows L2
section
variable {prog:Program} {w:World} {A:Around} {E:Value->Shared->Prop} {s:Shared}
end
section
variable {X:Cx}
end
end DW
end
section
namespace DW
open PySem PySem.Spec PyProof.Rows L2
section
variable {prog:Program} {w:World} {A:Around} {E:Value->Shared->Prop} {s:Shared}
end
section
variable {prog:Program} {w:World} {A:Around} {E:Value->Shared->Prop} {s:Shared}
end
end DW
end
section
set_option maxHeartbeats 2000000
namespace DW
open PySem PySem.Spec PyProof.Rows L2
section
variable {K:PySem.W.Frag} {H:Hp} {θ:List Addr} {μ:Mem} {ds es:List D} {a b:Addr}
end
section
variable {X:Cx}
end
end DW
end
section
set_option maxHeartbeats 2000000
namespace DW
open PySem PySem.Spec PyProof.Rows L2
section
variable {K:PySem.W.Frag} {H:Hp} {θ:List Addr} {μ:Mem} {ds:List D} {a:Addr}
end
section
variable {X:Cx}
end
end DW
end
section
set_option maxHeartbeats 2000000
namespace DW
open PySem PySem.Spec PyProof.Rows L2
section
variable {K:PySem.W.Frag} {H:Hp} {θ:List Addr} {μ:Mem} {ds:List D} {a:Addr}
end
section
variable {X:Cx} {tg:Expr}
end
end DW
end
section
set_option maxHeartbeats 2000000
namespace DW
open PySem PySem.Spec PyProof.Rows L2
section
variable {prog:Program} {w:World} {A:Around} {E:Value->Shared->Prop} {s:Shared}
end
end DW
namespace DW
open PySem PySem.Spec PyProof.Rows L2
section
variable {prog:Program} {w:World} {A:Around} {E:Value->Shared->Prop} {s:Shared}
end
end DW
namespace DW
open PySem PySem.Spec PyProof.Rows L2
section
variable {X:Cx}
end
end DW
end
section
set_option maxHeartbeats 2000000
namespace DW
open PySem PySem.Spec PyProof.Rows L2
section
variable {prog:Program} {w:World} {A:Around} {E:Value->Shared->Prop} {s:Shared}
end
end DW
end
section
set_option maxHeartbeats 2000000
namespace DW
open PySem PySem.Spec PyProof.Rows L2
section
variable {prog:Program} {w:World} {A:Around} {E:Value->Shared->Prop} {s:Shared}
end
section
variable {X:Cx}
end
end DW
end
section
namespace DW
open PySem PySem.Spec PyProof.Rows L2
section
variable {X:Cx}
end
set_option maxHeartbeats 1000000
section
variable {prog:Program} {w:World} {A:Around} {R:Result->Shared->Prop} {I l S:Addr} {items:Array Value} {val:Nat->Int} {dv:Value}
end
section
variable {X:Cx}
end
end DW
end
section
set_option maxHeartbeats 2000000
namespace DW
open PySem PySem.W PySem.Spec PySem.Calls PyProof.Rows Builtin.Getset_descriptor
structure ExcCls (K:Frag) (C:Addr):Prop where
 ga:findIn K (.ref C) "__getattribute__" = some (some (.builtin "BaseException.__getattribute__"))
 hk:findIn K (.ref C) "__getattr__" = some none
 ex:mroIn K C (.type "BaseException")=some true
 ob:mroIn K C (.type "object")=some true
 ca:findIn K (.ref C) "__class__" = some (some (.builtin "object.__class__"))
 cg:specialIn K (.builtin "object.__class__") "__get__" = some (some (.builtin "getset_descriptor.__get__"))
 ct:takesIn K (.builtin "object.__class__")=some true
 cl:(clsIn K C).isSome=true
theorem ExcAt.ty {M:Model} {h:Heap} {x C:Addr} (p:ExcAt x C h):Looks M h (typeOf (.ref x)) (.ref C):=by
 obtain ⟨o,h1,h2⟩:=p
 exact h2 ▸ (Looks.ld h1).andThen .now
section
variable {prog:Program} {w:World} {A:Around} {E:Value->Shared->Prop} {s:Shared} {K:Frag} {x C:Addr} {name:Str}
theorem Wbs {M:Model} {nameV:Value} {Q:Unit->Shared->Prop} (X:K.In s.heap) (I:ExcAt x C s.heap) (c:ExcCls K C) (hq:Q () s) :
  wpAny M A (checkBuiltinCall "BaseException.__getattribute__" ⟨[.ref x,nameV],[]⟩) Q E s:=by
 have hk:builtinKind "BaseException.__getattribute__" = some .slot:=by decide +kernel
 have hsplit:splitId "BaseException.__getattribute__" = some ("BaseException","__getattribute__"):=by decide +kernel
 have LI:Looks M s.heap (isInstance (.ref x) (.type "BaseException")) true:=I.ty.andThen (looks_mroIn X c.ex)
 have ha:=F.args_bexc_ga (.ref x) nameV
 simp only [checkBuiltinCall,hk,hsplit]
 refine wpAny_bind (LI.at ?_)
 repeat (first | assumption | wp_step)
theorem Wa8 {R:Result->Shared->Prop} {tp:Value} (X:K.In s.heap) (I:ExcAt x C s.heap) (c:ExcCls K C) (h:R (.ok (.ret (.ref C))) s) :
  codeAny (model prog w) A (.call (.builtin "getset_descriptor.__get__") ⟨[.builtin "object.__class__",.ref x,tp],[]⟩) R s:=by
 have ty:=I.ty (M:=model prog w)
 have sub:=looks_mroIn (M:=model prog w) X c.ob
 have isI:Looks (model prog w) s.heap (isInstance (.ref x) (.type "object")) true:=ty.andThen sub
 obtain ⟨hh,g,dr,t,os⟩:=s
 refine codeAny_call_builtin KF.slot_gs.plain KF.entry_gs (KF.slot_gs.check _ _ _ _ _ _ _ _ KF.type_class (KF.args_gs _ _ _) ?_)
 unfold Builtin.«getset_descriptor.__get__» descrGet
 rw [dga_obj]
 refine wpAny_bind (wpAny_pure ?_)
 unfold descrGetter descrCheckInstance descrNameAndClass isInstance
 simp only [KF.owner_class]
 repeat lk
 refine ⟨Code.quiet_builtin _ (by decide +kernel),codeAny_builtin KF.entry_class ?_⟩
 unfold Builtin.«object.__class__» shownTypeOf
 repeat lk
 exact h
theorem Xbs {Q:Option Value->Shared->Prop} (X:K.In s.heap) (I:ExcAt x C s.heap) (c:ExcCls K C) (h:Q (some (.ref C)) { s with toks:=s.toks + 1 }):wpAny (model prog w) A (getAttr? (.ref x) "__class__") Q E s:=by
 have L0:=I.ty (M:=model prog w)
 have L1:=looks_findIn (M:=model prog w) X c.ga
 have L2:=looks_findIn (M:=model prog w) X c.hk
 have f1:=looks_findIn (M:=model prog w) X c.ca
 have f2:=looks_specialIn (M:=model prog w) X c.cg
 have f3:=looks_takesIn (M:=model prog w) X c.ct
 have fd:Looks (model prog w) s.heap (Builtin.ObjectAttr.find (.ref x) (.ref C) "__class__") (.bind (.builtin "getset_descriptor.__get__") (.builtin "object.__class__")) :=
  f1.andThen (f2.andThen ((show Looks (model prog w) s.heap (Builtin.ObjectAttr.dataDescriptor? (some (.builtin "object.__class__")) (some (.builtin "getset_descriptor.__get__"))) (some (.builtin "getset_descriptor.__get__",.builtin "object.__class__")) from f3.andThen .now).andThen (Looks.tag .now)))
 have bnd:=F.attr_ValueError.ga.bind (.ref x)
 have hx2:(Value.builtin "BaseException.__getattribute__" == Value.builtin "object.__getattribute__")=false:=by decide +kernel
 unfold getAttr? getAttrBy?
 refine wpAny_bind (wpAny_mkText (wpAny_bind (wpAny_attempt ?_)))
 unfold getAttrBy
 refine wpAny_holding (wpAny_bind (L0.at (wpAny_bind (L1.at ?_))))
 simp only [hx2,Bool.and_false,Bool.false_eq_true,if_false]
 unfold getAttrByItsOwn hookBefore
 refine wpAny_bind (L2.at ?_)
 refine wpAny_bind (wpAny_attempt (wpAny_holding ?_))
 unfold callGetattribute
 simp only [Bool.false_and,Bool.false_eq_true,if_false]
 unfold boundAndCalled
 refine wpAny_bind (wpAny_of_eq bnd ?_)
 show wpAny _ _ (call (.builtin "BaseException.__getattribute__") [.ref x,.str "__class__" s.toks]) _ _ _
 refine wpAny_call (codeAny_call_builtin F.attr_ValueError.ga.plain F.entry_bexc_ga (Wbs (s:={ s with toks:=s.toks + 1 }) X I c ?_))
 unfold Builtin.«object.__getattribute__»
 refine wpAny_bind (wpAny_pure (wpAny_bind (wpAny_pure (wpAny_bind (L0.at (wpAny_bind (fd.at ?_)))))))
 show wpAny _ _ (Builtin.ObjectAttr.bindTo _ _ _ _) _ _ _
 unfold Builtin.ObjectAttr.bindTo
 refine wpAny_bind (wpAny_holding (wpAny_call (Wa8 (s:={ s with toks:=s.toks + 1 }) X I c ?_)))
 refine wpAny_pure ?_
 show wpAny _ _ (handedOut (.ref C)) _ _ _
 rw [handedOut_of rfl]
 exact wpAny_pure (wpAny_pure h)
end
theorem Vaz {K:Frag} {x C:Addr} (c:ExcCls K C):KitX K (.ref x) (.ref C) (ExcAt x C) where
 ty:=fun _ _ _ I=>I.ty
 it:=fun _ _ X _=>by
  have hc:=c.cl
  unfold clsIn at hc
  split at hc
  ·rename_i ho
   intro A' Q' E' s' k q
   unfold isType loadHead
   exact wpAny_bind (wpAny_loadPart (k _ _ (X _ _ ho)) (wpAny_pure q))
  ·cases hc
 ne:=fun h tp dd its n sl X htp=>by
  have hc:=c.cl
  refine Bool.eq_false_iff.mpr fun q=>?_
  have e:C=tp:=Value.ref.inj (beq_iff_eq.mp q)
  subst e
  unfold clsIn at hc
  split at hc
  ·rename_i ho
   have z:=(X _ _ ho).symm.trans htp
   cases z
  ·cases hc
 ca:=fun X I k=>Xbs X I c k
end DW
end
section
set_option maxHeartbeats 2000000
namespace DW
open PySem PySem.W PySem.Spec PyProof.Rows L2
structure Fly (outer:List Env) (H H':Hp) (h h':Heap) (B:Heap) (ea:Addr) (ob:Obj) (vs:Array Value) (P:Program) (w:World):Prop where
 un:Un (frs outer) [] H H' h h'
 hok:HOk P w H' h'
 fl:FlyX B outer ea ob vs .none h'
 ctx:vs[2]? = some .none
 old:∀ b o,h.get? b=some o->b ∉ frs outer->∃ o',B.get? b=some o'
 trk:∀ b u,H' b=some u->∃ o,B.get? b=some o
noncomputable def CXE (P:Program) (w:World):CXT:=fun outer H s E e s' =>
 ∃ (ea:Addr) (ob:Obj) (vs:Array Value) (B:Heap) (H':Hp),e = .ref ea/\s'.os=s.os/\AllBare s'.gens/\Fly outer H H' s.heap s'.heap B ea ob vs P w/\E ob.cls ob.dict H'
structure Leaves (X:Cx) (E:XK):Prop where
 stk:X.stack=X.env :: X.outer
 fr:X.env.frame=some X.env.locals
 ex:X.ex=[]
 xe:X.xe=fun e s'=>wpAny (model X.prog X.w) X.A (leaving X.env e) (fun _ s''=>CXE X.prog X.w X.outer X.H₀ X.s₀ E e s'') (fun e' s''=>CXE X.prog X.w X.outer X.H₀ X.s₀ E e' s'') s'
theorem Ybm {P:Program} {w:World} {K:Frag} {mg:Str->Option Value} {base:Heap} {N:List Str} {qual:Str} {scope:Scope} {f:Addr} {cd:Value} {A:Around} {outer:List Env} {s:Shared} {H:Hp} {E:XK} :
  Leaves (cxOf (CXE P w) P w K mg base N qual scope f cd A outer s H E) E:=⟨rfl,rfl,rfl,rfl⟩
theorem Ybb {fs:List Addr} {H0 H:Hp} {h0 h h' B:Heap} {fr:List Addr} (u:Un fs [] H0 H h0 h) (hB:∀ b o,(∃ o0,h0.get? b=some o0)->h.get? b=some o->b ∉ fr->B.get? b=some o) (st:B.StaysIn h')
  (up:∀ b∈fr,∀ o,h.get? b=some o->∃ sl,h'.get? b=some { o with slots:=sl }) (nl:∀ b o,h0.get? b=some o->b∈fr->b∈fs):Un fs [] H0 H h0 h' where
 keep:=fun b o q n hb hx=>by
  have e:=u.keep b o q n hb hx
  exact st b o (hB b o ⟨o,q⟩ e fun z=>hb (nl b o q z))
 slot:=fun b o q n hb hx=>by
  obtain ⟨sl,e⟩:=u.slot b o q n hb hx
  by_cases z:b∈fr
  ·obtain ⟨sl',e'⟩:=up b z _ e
   exact ⟨sl',e'⟩
  ·exact ⟨sl,st b _ (hB b _ ⟨o,q⟩ e z)⟩
 free:=u.free
 there:=fun b o q hx=>by
  obtain ⟨o',e⟩:=u.there b o q hx
  by_cases z:b∈fr
  ·obtain ⟨sl',e'⟩:=up b z _ e
   exact ⟨_,e'⟩
  ·exact ⟨o',st b _ (hB b _ ⟨o,q⟩ e z)⟩
 tups:=u.tups
 frzs:=u.frzs
 tbls:=u.tbls
theorem War {P:Program} {w:World} {H:Hp} {h h' B:Heap} (hok:HOk P w H h) (hB:∀ b u,H b=some u->∃ o,B.get? b=some o) (s1:B.StaysIn h) (st:B.StaysIn h'):HOk P w H h':=fun a o e=>by
 have k:∀ b v,H b≠none->h.get? b=some v->h'.get? b=some v:=fun b v hb hv=>by
  cases q:H b with
  | none=>exact absurd q hb
  | some u =>
   obtain ⟨o',e'⟩:=hB b u q
   have:=s1 b o' e'
   rw [hv] at this; cases this
   exact st b _ e'
 refine (hok a o e).stay (fun b u hb q=>k b u ?_ q) (fun _ q=>q) fun _ _ q=>q
 rcases hb with rfl | z
 ·rw [e]; simp
 ·rw [z]; simp
theorem Xah {P:Program} {w:World} {H:Hp} {h:Heap} {a:Addr} {o:HO} (x:ObjOk P w H h a o):∃ ob,h.get? a=some ob:=by
 induction o with
 | lst xs=>obtain ⟨_,_,_,_,e⟩:=x; exact ⟨_,e⟩
 | tup xs=>obtain ⟨_,_,_,ob,e,_⟩:=x; exact ⟨_,e⟩
 | dK kvs=>obtain ⟨_,_,_,_,o,_,_,e,_⟩:=x; exact ⟨_,e⟩
 | dT kvs=>obtain ⟨_,_,_,_,o,_,_,e,_⟩:=x; exact ⟨_,e⟩
 | set S n=>obtain ⟨o,_,_,_,e,_⟩:=x; exact ⟨_,e⟩
 | ins C dx fs=>obtain ⟨_,_,_,e,_⟩:=x; exact ⟨_,e⟩
 | own y=>exact x
 | xd fs=>obtain ⟨_,⟨_,_,_,e,_⟩,_⟩:=x; exact ⟨_,e⟩
 | rng lo hi=>obtain ⟨_,_,_,e⟩:=x; exact ⟨_,e⟩
 | frz ob u ih=>obtain ⟨e,_⟩:=x; exact ⟨_,e⟩
 | tbl ps=>first | exact ⟨_,x⟩ | exact ⟨_,x.1⟩
 | met f y=>exact ⟨_,x⟩
 | ext φ=>obtain ⟨_,e,_⟩:=x; exact e
section
variable {X:Cx} {E E':XK} {pins:List (Addr×Obj)} {σ:L2.St} {H:Hp} {s s':Shared} {e:Value}
theorem fr_up {l:List Env} {base h h':Heap} (F:h.FunFrames base l) (up:h.UpToSlots h'):∀ b∈frs l,∀ o,h.get? b=some o->∃ sl,h'.get? b=some { o with slots:=sl }:=fun b hb o ho=>by
 obtain ⟨_,o',e',nf⟩:=F.mem hb
 rw [ho] at e'; cases e'
 exact up b o ho nf
theorem frs_eq (L:Leaves X E):frs X.stack=X.env.locals :: X.fs:=by rw [L.stk]; unfold frs; rw [List.filterMap_cons,L.fr]; rfl
theorem Xac (L:Leaves X E) (I:Inv X pins σ H s) {b:Addr} {o:Obj} (q:X.s₀.heap.get? b=some o) (z:b∈frs X.stack):b∈X.fs:=by
 rw [frs_eq L] at z
 rcases List.mem_cons.mp z with z | z
 ·exact absurd (Heap.lt_size q) (by rw [z]; exact Nat.not_lt.mpr I.ok.above)
 ·exact z
theorem raise_x {ea:Addr} {ob:Obj} {ws:Array Value} (L:Leaves X E) (I:Inv X pins σ H s) (he:s.heap.get? ea=some { ob with data:=.fields ws }) (h0:X.s₀.heap.get? ea=none) (hn:H ea=none) (z:2 < ws.size) (h1:ws[1]? = some .none) (h2:ws[2]? = some .none)
  (hE:E ob.cls ob.dict H):X.xe (.ref ea) s:=by
 rw [L.xe]
 have hfr:X.A.frames=some (X.env :: X.outer):=by rw [I.ok.frames,L.stk]
 have F:=I.stack
 have nf:ea ∉ frs X.stack:=fun q=>by
  obtain ⟨_,o,ho,nf⟩:=F.mem q
  rw [he] at ho; cases ho; exact nf ws rfl
 have hm:∀ env∈X.stack,∀ a,env.frame=some a->a∈ea :: frs X.stack:=fun env he a ha=>List.mem_cons_of_mem _ (List.mem_filterMap.mpr ⟨env,he,ha⟩)
 have F2:s.heap.FunFrames (hideAll s.heap (ea :: frs X.stack)) (X.env :: X.outer):=by rw [<- L.stk]; exact funFrames_hide F hm
 have hB:∀ b o,s.heap.get? b=some o->b≠ea->b ∉ frs X.stack->(hideAll s.heap (ea :: frs X.stack)).get? b=some o:=fun b o q n z=>hideAll_get _ q fun y=>(List.mem_cons.mp y).elim n z
 have old:∀ b o,X.s₀.heap.get? b=some o->b≠ea:=fun b o q z=>by subst z; rw [h0] at q; cases q
 refine Xbm (B:=hideAll s.heap (ea :: frs X.stack)) hfr F2 L.fr he (fun b o q=>of_hideAll _ q) (hideAll_none _ List.mem_cons_self) z (.inl h1) fun h3 fl up=>?_
 have hbase:Un X.fs [] X.H₀ H X.s₀.heap s.heap:=by have:=I.base; rw [L.ex] at this; exact this
 have trk:∀ b u,H b=some u->∃ o,(hideAll s.heap (ea :: frs X.stack)).get? b=some o:=fun b u q=>by
  have nb:b ∉ frs X.stack:=fun z=>by rw [I.stkFree b z] at q; cases q
  obtain ⟨o,ho⟩:∃ o,s.heap.get? b=some o:=Xah (I.hok b u q)
  exact ⟨o,hB b o ho (fun z=>by rw [z,hn] at q; cases q) nb⟩
 refine ⟨ea,ob,ws,hideAll s.heap (ea :: frs X.stack),H,rfl,I.os,I.bare,⟨?_,?_,fl,h2,?_,trk⟩,hE⟩
 ·exact Ybb hbase (fun b o ⟨o0,q0⟩ q z=>hB b o q (old b o0 q0) z) fl.stay (fr_up F up) fun b o q z=>Xac L I q z
 ·exact War I.hok trk (fun b o q=>of_hideAll _ q) fl.stay
 ·intro b o q z
  obtain ⟨o',e'⟩:=hbase.there b o q (by simp)
  exact ⟨o',hB b o' e' (old b o q) fun y=>z (Xac L I q y)⟩
theorem Vb3 {ea:Addr} {cls:Value} {us:List Value} {h':Heap} (L:Leaves X E) (I:Inv X pins σ H s) (hx:Heap.MadeExcOf s.heap h' ea cls us) (hE:E cls none H):X.xe (.ref ea) { s with heap:=h' }:=by
 obtain ⟨t,he,_,_⟩:=hx.there
 have n0:∀ o,X.s₀.heap.get? ea≠some o:=fun o q=>by
  obtain ⟨o',e'⟩:=I.base.there ea o q (by rw [L.ex]; simp)
  rw [hx.new] at e'; cases e'
 have hn:H ea=none:=by
  cases q:H ea with
  | none=>rfl
  | some u =>
   obtain ⟨o,ho⟩:=Xah (I.hok ea u q)
   rw [hx.new] at ho; cases ho
 refine raise_x (ob:={ cls:=cls,data:=.fields #[] }) (ws:=#[.ref t,.none,.none,.none,.bool false,.none]) L (I.kept (t':=s.toks) hx.keeps) he ?_ hn (by simp) rfl rfl hE
 cases q:X.s₀.heap.get? ea with
 | none=>rfl
 | some o=>exact absurd q (n0 o)
theorem Vbr {H':Hp} {B:Heap} {ea:Addr} {ob:Obj} {vs:Array Value} (I:Inv X pins σ H s) (ho:s'.os=s.os) (hg:AllBare s'.gens) (F:Fly X.stack H H' s.heap s'.heap B ea ob vs X.prog X.w):Inv X pins σ H' s' :=
 I.call' (ch:=[]) ho F.un F.hok hg fun b z=>absurd z (by simp)
theorem call_xe (L:Leaves X E) (I:Inv X pins σ H s) (hE:∀ cls dx H',E' cls dx H'->E cls dx H') (h:CXE X.prog X.w X.stack H s E' e s'):X.xe e s':=by
 obtain ⟨ea,ob,vs,B,H',rfl,ho,hg,F,q⟩:=h
 have I':=Vbr I ho hg F
 rw [L.xe]
 have hfr:X.A.frames=some (X.env :: X.outer):=by rw [I.ok.frames,L.stk]
 have fl:=F.fl
 have F0:s'.heap.FunFrames B X.stack:=fl.fun_
 rw [L.stk] at fl
 have hbase:Un X.fs [] X.H₀ H' X.s₀.heap s'.heap:=by have:=I'.base; rw [L.ex] at this; exact this
 have hbase0:Un X.fs [] X.H₀ H X.s₀.heap s.heap:=by have:=I.base; rw [L.ex] at this; exact this
 refine leave_on hfr L.fr fl fun h2 fl2 up=>?_
 have inB:∀ b,(∃ o0,X.s₀.heap.get? b=some o0)->b ∉ frs X.stack->∃ o',B.get? b=some o':=fun b ⟨o0,q0⟩ z=>by
  obtain ⟨o1,e1⟩:=hbase0.there b o0 q0 (by simp)
  exact F.old b o1 e1 z
 refine ⟨ea,ob,vs,B,H',rfl,I'.os,I'.bare,⟨?_,?_,fl2,F.ctx,?_,F.trk⟩,hE _ _ H' q⟩
 ·refine Ybb hbase (fun b o hb q0 z=>?_) fl2.stay (fr_up F0 up) fun b o q0 z=>Xac L I q0 z
  obtain ⟨o',e'⟩:=inB b hb z
  have:=fl.stay b o' e'
  rw [q0] at this; cases this
  exact e'
 ·exact War F.hok F.trk fl.stay fl2.stay
 ·intro b o q0 z
  exact inB b ⟨o,q0⟩ fun y=>z (Xac L I q0 y)
end
end DW
end
section
set_option maxHeartbeats 2000000
namespace DW
open PySem PySem.W PySem.Spec PyProof.Rows L2
abbrev bmVE:List Value:=[.type "ValueError",.type "Exception",.type "BaseException",.type "object"]
theorem exc_obj {K:Frag} {h:Heap} {C:Addr} {bmB:List Value} {newId:String} (X:K.In h) (q:excIn K C bmB newId=true) :
  ∃ bm N nm qn bs hdct sn sub ab col dd k0 k1 k2 k3 k5 mN,h.get? C=some (excClassObj nm qn C N bs bm hdct sn sub ab col dd k0 k1 k2 k3 k5 newId)/\h.Ns N mN/\mN "__init__" = none/\OwnTail h bmB bm:=by
 unfold excIn at q
 split at q
 ·rename_i dd cd sl ho
  split at q
  ·rename_i C' bm k0 k1 k2 k3 n k5 hm hs
   rw [Bool.and_eq_true,Bool.and_eq_true,Bool.and_eq_true,Bool.and_eq_true,Bool.and_eq_true] at q
   obtain ⟨⟨⟨⟨⟨e1,e2⟩,e3⟩,ht⟩,hok⟩,hni⟩:=q
   have e1:=beq_iff_eq.mp e1
   have e2:=beq_iff_eq.mp e2
   have e3:cd.hasDel=false:=by simpa using e3
   have hni:=beq_iff_eq.mp hni
   subst e1 e2
   obtain ⟨l⟩:=sl
   have hs':l=[k0,k1,k2,k3,some (.builtin n),k5]:=hs
   subst hs'
   obtain ⟨nm,bs,mro,ns,qn,hd,sn,sub,ab,col,del⟩:=cd
   have hm':mro = .ref C' :: bm:=hm
   have e3':del=false:=e3
   subst hm' e3'
   exact ⟨bm,ns,nm,qn,bs,hd,sn,sub,ab,col,dd,k0,k1,k2,k3,k5,_,X _ _ ho,.of_isNs (isNs_of_in X hok),nsMap_none_of_in X hok hni,tail_of_in X ht⟩
  ·cases q
 ·cases q
section
variable {X:Cx} {E:XK} {x:Str} {C:Addr} {np cpos pos:Pos} {args:List Expr} {t:TA}
theorem Vb4 {B newId initId:String} {bmB:List Value} (FB:ExcBaseFacts B newId initId bmB) (L:Leaves X E) (hc:X.calm=true) (hg:Gl X x) (hm:X.mg x=some (.ref C)) (q:excIn X.K C bmB newId=true) (ha:PA X args t)
  (hpl:(backTo cpos (starEach args X.env)).any (·.1)=false) (hd:(x == ("__debug__" : Str))=false) (hst:args=[]∨∃ e es,args=e :: es/\starEach (e :: es) X.env=(false,eval e X.env) :: starEach es X.env) :
  PS X (.Raise (some (.Call (.Name x np) args [] cpos)) none pos) (fun D σ H=>t σ H fun vs H1=>vs.length<=sizeLine/\E (.ref C) none H1):=by
 intro pins s σ H D I h
 obtain ⟨bm,N,nm,qn,bs,hdct,sn,sub,ab,col,dd,k0,k1,k2,k3,k5,mN,hC,hN,hni,T⟩:=exc_obj I.mod.kin q
 refine wpAny_Raise_call_subT (C:=C) (nm:=nm) (q:=qn) (N:=N) (bs:=bs) (bm:=bm) (hdct:=hdct) (sn:=sn) (sub:=sub) (ab:=ab) (col:=col) (dd:=dd) (k0:=k0) (k1:=k1) (k2:=k2) (k3:=k3) (k5:=k5)
  FB (mN:=mN) (T.hasType FB.hasBase) (I.ok.hd hc) hpl hni (Vn I hg hm ⟨rfl,?_⟩ hd)
 have fin:wpAny (model X.prog X.w) X.A (spliced (backTo cpos (starEach args X.env))) (fun vs s₂=>vs.length<=sizeLine/\s₂.heap.get? C=some (excClassObj nm qn C N bs bm hdct sn sub ab col dd k0 k1 k2 k3 k5 newId)/\s₂.heap.Ns N mN/\OwnTail s₂.heap bmB bm /\
   ∀ h' e,Heap.MadeExcOf s₂.heap h' e (.ref C) vs->X.xe (.ref e) { s₂ with heap:=h' }) X.xe s:=by
  refine thn (ha cpos pins s σ H _ I h) fun us s2 ⟨vs,H2,I2,r,z,hE⟩=>?_
  exact ⟨by rw [<- r.length]; exact z,I2.bk _ _ hC,hN.keeps I2.bk,T.keeps I2.bk,fun h' e hx=>Vb3 L I2 hx hE⟩
 rcases hst with rfl | ⟨e,es,rfl,he⟩
 ·unfold evalArgs
  show wpAny _ _ (spliced (backTo cpos (starEach [] X.env)) >>= _) _ _ _
  exact wpAny_bind (wpAny_mono fin (fun vs s' h'=>wpAny_holding (wpAny_bind (wpAny_pure (wpAny_bind (wpAny_pure (wpAny_pure ⟨rfl,h'⟩)))))) fun _ _ y=>y)
 ·rw [he] at fin ⊢
  exact Calls.evalArgs_plain (wpAny_mono fin (fun vs s₂ h₂=>⟨rfl,h₂⟩) fun _ _ y=>y)
end
noncomputable def Meets (X:Cx) (EX:L2.St->XK):Prop:=∀ (pins:List (Addr×Obj)) (σ:L2.St) (H:Hp) (s:Shared) (E':XK) (e:Value) (s':Shared),Inv X pins σ H s->(∀ cls dx H',E' cls dx H'->EX σ cls dx H')->CXE X.prog X.w X.stack H s E' e s'->X.xe e s'
theorem meets_of {X:Cx} {E:XK} (L:Leaves X E):Meets X fun _=>E:=fun pins σ H s E' e s' I hE h=>call_xe L I hE h
section
variable {X:Cx} {EX:L2.St->XK} {k:Nat} {f C:Addr} {fd:FuncData} {ps:List Str} {sp:Sp} {x m:Str} {p pos apos:Pos} {e o:Expr} {es:List Expr} {ta:TE} {t:TA}
theorem Xbg {pins:List (Addr×Obj)} {σ:L2.St} {H:Hp} {s:Shared} {Q:VK} {us:List Value} {vs:List V} (F:FnOk X.prog X.w X.K X.mg X.base (CXE X.prog X.w) k f fd ps sp) (hr:Room k X.A) (hb:Binds X.K fd ps []) (M:Meets X EX)
  (I:Inv X pins σ H s) (r:Vals vs us) (h:sp vs H Q (EX σ)):wpAny (model X.prog X.w) X.A (call (.ref f) us) (EP X pins σ Q) X.xe s:=by
 have hl:us.length=ps.length:=by rw [<- r.length]; exact F.len _ _ _ _ h
 have hb':=hb s us I.kIn (by simpa using hl)
 rw [List.append_nil] at hb'
 refine wpAny_call (codeAny_mono (F.run X.A X.stack s H ⟨us,[]⟩ us vs Q (EX σ) hr I.env0 hb' r h) fun r s' hq=>?_)
 cases r with
 | error e=>exact M pins σ H s (EX σ) e s' I (fun _ _ _ z=>z) hq
 | ok fl =>
  cases fl with
  | ret u=>exact I.after hq
  | next=>exact False.elim hq
  | brk=>exact False.elim hq
  | cont=>exact False.elim hq
theorem Wb7 (F:FnOk X.prog X.w X.K X.mg X.base (CXE X.prog X.w) k f fd ps sp) (hr:Room k X.A) (hg:Gl X x) (hm:X.mg x=some (.ref f)) (hk:PySem.W.keepIn X.K (.ref f)=true) (hb:Binds X.K fd ps []) (M:Meets X EX)
  (ha:PA X (e :: es) t) (hdb:(x == ("__debug__" : Str))=false) (he:starEach (e :: es) X.env=(false,eval e X.env) :: starEach es X.env) (hpl:(backTo pos (starEach es X.env)).any (·.1)=false) :
  PE X (.Call (.Name x p) (e :: es) [] pos) (fun σ H Q=>t σ H fun vs H1=>sp vs H1 Q (EX σ)):=by
 intro pins s σ H Q I h
 refine wpAny_Call_Name_kw (Vn I hg hm ?_ hdb)
 refine PySem.W.callWith_K (h₀:=X.base) I.ok.mod.kin hk (thn (ha pos pins s σ H _ I h) fun us s1 ⟨vs,H1,I1,r,q⟩=>⟨I1.kIn,?_⟩) he hpl
 exact Xbg F hr hb M I1 r q
theorem Vbi (F:FnOk X.prog X.w X.K X.mg X.base (CXE X.prog X.w) k f fd ps sp) (hr:Room k X.A) (hg:Gl X x) (hm:X.mg x=some (.ref f)) (hk:PySem.W.keepIn X.K (.ref f)=true) (hb:Binds X.K fd ps []) (M:Meets X EX)
  (hdb:(x == ("__debug__" : Str))=false):PE X (.Call (.Name x p) [] [] pos) (fun σ H Q=>sp [] H Q (EX σ)):=by
 intro pins s σ H Q I h
 refine wpAny_Call_Name_kw (Vn I hg hm ?_ hdb)
 exact PySem.W.callWith_K0 I.kIn hk (Xbg (us:=[]) F hr hb M I .nil h)
end
end DW
end
section
set_option maxHeartbeats 2000000
namespace DW
open PySem PySem.W PySem.Spec PyProof.Rows L2
noncomputable def Xh (X:Cx) (ea:Addr):Cx:={ X with A:=X.A.mark (some (.ref ea)),calm:=false,xe:=fun _ _=>False }
section
variable {X:Cx} {pins:List (Addr×Obj)} {σ:L2.St} {H H':Hp} {s s':Shared} {ea:Addr} {oe:Obj}
theorem ok_h (ok:X.Ok):(Xh X ea).Ok:=⟨ok.mod,ok.kind,ok.glob,ok.blt,ok.above,ok.inj,ok.has,ok.cab,fun z=>(Bool.false_ne_true z).elim,ok.frames,ok.stk,ok.exf,ok.bs,ok.bsz,ok.noex,ok.exfs,ok.funs,ok.frf⟩
theorem inv_h {oe:Obj} {u:HO} {vs:Array Value} (I:Inv X pins σ H s) (he:H ea=some (.frz oe u)) (hd:oe.data = .fields vs) (h2:vs[2]? = some .none):Inv (Xh X ea) pins σ H s :=
 ⟨ok_h I.ok,I.os,I.bare,I.base,I.loc,I.cell,I.free,I.freeC,I.pin,I.hok,I.len,fun v q=>⟨ea,oe,u,vs,(Option.some.inj (show some (Value.ref ea)=some v from q)).symm,he,hd,h2⟩⟩
theorem inv_unh (hc:X.calm=true) (ok:X.Ok) (I:Inv (Xh X ea) pins σ H s):Inv X pins σ H s :=
 ⟨ok,I.os,I.bare,I.base,I.loc,I.cell,I.free,I.freeC,I.pin,I.hok,I.len,fun v q=>by rw [ok.hd hc] at q; cases q⟩
theorem Wbp {a:Addr} {o:Obj} {φ:Heap->Prop} (I:Inv X pins σ H s) (hn:H a=none) (ho:s.heap.get? a=some o) (h0:X.s₀.heap.get? a=none) (hl:a≠X.env.locals) (hc:∀ v,o.data≠.cell v) (hp:∀ p∈X.pn ++ pins,p.1≠a)
  (hφ:φ s.heap) (hst:∀ h1 h2:Heap,φ h1->(∀ o,h1.get? a=some o->h2.get? a=some o)->φ h2):Inv X pins σ (upd H a (.frz o (.ext φ))) s:=by
 have ne:∀ b u,H b=some u->b≠a:=fun b u e=>Xc e hn
 refine ⟨I.ok,I.os,I.bare,⟨I.base.keep,I.base.slot,fun b ob q n hx=>?_,I.base.there,fun b xs q=>?_,fun b ob u q=>?_,fun b ps q=>?_⟩,I.loc,I.cell,?_,fun x c e=>?_,fun p hpp=>?_,fun b u e=>?_,I.len,I.hh.mono fun b o u q=>by rw [Vb (ne b _ q)]; exact q⟩
 ·have:b≠a:=by rintro rfl; rw [h0] at q; cases q
  rw [Vb this]; exact I.base.free b ob q n hx
 ·have:=I.base.tups b xs q
  rw [Vb (ne b _ this)]; exact this
 ·have:=I.base.frzs b ob u q
  rw [Vb (ne b _ this)]; exact this
 ·obtain ⟨more,this⟩:=I.base.tbls b ps q
  exact ⟨more,by rw [Vb (ne b _ this)]; exact this⟩
 ·rw [Vb (Ne.symm hl)]; exact I.free
 ·obtain ⟨v,oc,q1,q2⟩:=I.cell x c e
  have:c≠a:=by rintro rfl; rw [ho] at q1; cases q1; exact hc v q2
  rw [Vb this]; exact I.freeC x c e
 ·obtain ⟨q1,q2,q3,q4,q5⟩:=I.pin p hpp
  exact ⟨q1,by rw [Vb (hp p hpp)]; exact q2,q3,q4,q5⟩
 ·by_cases hb:b=a
  ·subst hb
   rw [Yc] at e; cases e
   exact ⟨ho,hφ,⟨o,ho⟩,hst⟩
  ·rw [Vb hb] at e
   exact (I.hok b u e).stay (fun _ _ _ q=>q) (fun c q=>by rw [Vb (ne c _ q)]; exact q) fun c xs q=>by rw [Vb (ne c _ q)]; exact q
theorem inv_fly {B:Heap} {h':Heap} {tk:Nat} (ex:X.ex=[]) (stk:X.stack=X.env :: X.outer) (fr:X.env.frame=some X.env.locals) (I0:Inv X pins σ H s) (I:Inv X pins σ H' s')
  (old:∀ b o,s.heap.get? b=some o->b ∉ frs X.stack->∃ o',B.get? b=some o') (trk:∀ b u,H' b=some u->∃ o,B.get? b=some o) (s1:B.StaysIn s'.heap) (s2:B.StaysIn h') (up:s'.heap.UpToSlots h') (F0:s'.heap.FunFrames B X.stack) :
  Inv X pins σ H' { s' with heap:=h',toks:=tk }:=by
 have hfrs:frs X.stack=X.env.locals :: X.fs:=by rw [stk]; unfold frs; rw [List.filterMap_cons,fr]; rfl
 have out:∀ b o,X.s₀.heap.get? b=some o->b∈frs X.stack->b∈X.fs:=fun b o q z=>by
  rw [hfrs] at z
  rcases List.mem_cons.mp z with z | z
  ·exact absurd (Heap.lt_size q) (by rw [z]; exact Nat.not_lt.mpr I.ok.above)
  ·exact z
 have kept:∀ b o0 o,s.heap.get? b=some o0->b ∉ frs X.stack->s'.heap.get? b=some o->B.get? b=some o:=fun b o0 o q0 z q=>by
  obtain ⟨o',e'⟩:=old b o0 q0 z
  have:=s1 b o' e'
  rw [q] at this; cases this
  exact e'
 have hbase:Un X.fs [] X.H₀ H' X.s₀.heap s'.heap:=by have:=I.base; rw [ex] at this; exact this
 have hbase0:Un X.fs [] X.H₀ H X.s₀.heap s.heap:=by have:=I0.base; rw [ex] at this; exact this
 have fup:=fr_up F0 up
 have cellK:∀ x c v,X.env.cells.lookup x=some c->s'.heap.IsCell c v->h'.IsCell c v:=fun x c v e ⟨o,ho,hd⟩=>by
  by_cases z:c∈frs X.stack
  ·obtain ⟨sl,e'⟩:=fup c z o ho
   exact ⟨_,e',hd⟩
  ·obtain ⟨v0,o0,h0,_⟩:=I0.cell x c e
   exact ⟨o,s2 c o (kept c o0 o h0 z ho),hd⟩
 refine ⟨I.ok,I.os,I.bare,?_,?_,fun x c e=>?_,I.free,I.freeC,fun p hp=>?_,War I.hok trk s1 s2,I.len,I.hh⟩
 ·rw [ex]
  refine Ybb hbase (fun b o ⟨o0,q0⟩ q z=>?_) s2 fup out
  obtain ⟨o1,e1⟩:=hbase0.there b o0 q0 (by simp)
  exact kept b o1 o e1 z q
 ·obtain ⟨m,hn,hl⟩:=I.loc
  refine ⟨m,up.ns hn,fun i x v e1 e2 e3=>?_⟩
  obtain ⟨u,r,l⟩:=hl i x v e1 e2 e3
  refine ⟨u,r,?_⟩
  rcases l with l | ⟨k,c,e,z⟩
  ·exact .inl l
  ·exact .inr ⟨k,c,e,cellK x c _ e z⟩
 ·obtain ⟨v,hv⟩:=I.cell x c e
  exact ⟨v,cellK x c v e hv⟩
 ·obtain ⟨q1,q2,q3,q4,q5⟩:=I.pin p hp
  obtain ⟨p1,_,_,_,_⟩:=I0.pin p hp
  refine ⟨s2 _ _ (kept p.1 _ _ p1 ?_ q1),q2,q3,q4,q5⟩
  rw [hfrs]
  intro z
  rcases List.mem_cons.mp z with z | z
  ·exact q3 z
  ·exact q4 z
theorem inv_gone {h':Heap} {m':Str->Option Value} {tk:Nat} (I:Inv X pins σ H s) (hn':h'.Ns X.env.locals m') (hs:Heap.SameBut X.env.locals s.heap h'):Inv X pins (List.replicate X.N.length none) H { s with heap:=h',toks:=tk }:=by
 have neL:∀ b o,X.s₀.heap.get? b=some o->b≠X.env.locals:=fun b o e=>Nat.ne_of_lt (Nat.lt_of_lt_of_le (Heap.lt_size e) I.ok.above)
 have k:∀ b o,b≠X.env.locals->s.heap.get? b=some o->h'.get? b=some o:=fun b o hb q=>(hs.2 b hb).trans q
 refine ⟨I.ok,I.os,I.bare,⟨fun b o e n hb hx=>k b o (neL b o e) (I.base.keep b o e n hb hx),fun b o e n hb hx=>?_,I.base.free,fun b o e hx=>?_,I.base.tups,I.base.frzs,I.base.tbls⟩,⟨m',hn',fun j y v' e1 e2 e3=>?_⟩,fun y c e=>?_,I.free,I.freeC,fun p hp=>?_,fun b u e=>?_,by simp,I.hh⟩
 ·obtain ⟨sl,e1⟩:=I.base.slot b o e n hb hx
  exact ⟨sl,k b _ (neL b o e) e1⟩
 ·obtain ⟨o',e1⟩:=I.base.there b o e hx
  exact ⟨o',k b _ (neL b o e) e1⟩
 ·rw [List.getElem?_replicate] at e2
  split at e2 <;> cases e2
 ·obtain ⟨v,o,ho,hd⟩:=I.cell y c e
  exact ⟨v,o,k c o (I.cne y c e) ho,hd⟩
 ·obtain ⟨q1,q2,q3,q4,q5⟩:=I.pin p hp
  exact ⟨k _ _ q3 q1,q2,q3,q4,q5⟩
 ·refine (I.hok b u e).stay (fun c v hc q=>k c v ?_ q) (fun _ q=>q) fun _ _ q=>q
  rintro rfl
  rcases hc with rfl | hc
  ·rw [I.free] at e; cases e
  ·rw [I.free] at hc; cases hc
theorem Ybu {M:Model} {A:Around} {E:Value->Shared->Prop} {env:Env} {n:Str} {pos:Pos} {c:Addr} {v:Option Value} {Q:Unit->Shared->Prop} {s:Shared} (hk:env.scope.kind = .function) (hl:env.kindOf n=some .cell) (hc:env.cells.lookup n=some c) (hv:s.heap.IsCell c v)
  (h:∀ h',h'.IsCell c none->Heap.SameBut c s.heap h'->Q () { s with heap:=h' }):wpAny M A (do bindName env n .none; unbindBehindTheSuite env n pos) Q E s:=by
 refine wpAny_bind (wpAny_bindName (wpAny_storeName_cell hk hl hc hv fun h1 v1 s1=>?_))
 unfold unbindBehindTheSuite unbindName
 refine wpAny_onRaise (wpAny_bind (wpAny_point (wpAny_bind ?_)))
 unfold deleteName
 simp only [hl]
 refine wpAny_bind (wpAny_cellOf hc (wpAny_bind (wpAny_cellGet v1 ?_)))
 simp only [Option.isSome_some,if_true]
 exact wpAny_cellSet v1 fun h2 v2 s2=>wpAny_point (h h2 v2 (s1.trans s2))
theorem Zbq {h':Heap} {n:Str} {c:Addr} (I:Inv X pins σ H s) (hc:X.env.cells.lookup n=some c) (hf:X.fn n=true) (hv:h'.IsCell c none) (hs:Heap.SameBut c s.heap h'):Inv X pins (List.replicate X.N.length none) H { s with heap:=h' }:=by
 have neC:∀ b o,X.s₀.heap.get? b=some o->b≠c:=fun b o e=>Nat.ne_of_lt (Nat.lt_of_lt_of_le (Heap.lt_size e) (I.ok.cab n c hf hc))
 have k:∀ b o,b≠c->s.heap.get? b=some o->h'.get? b=some o:=fun b o hb q=>(hs.2 b hb).trans q
 obtain ⟨vc,oc,hoc,hdc⟩:=I.cell n c hc
 refine ⟨I.ok,I.os,I.bare,⟨fun b o e n hb hx=>k b o (neC b o e) (I.base.keep b o e n hb hx),fun b o e n hb hx=>?_,I.base.free,fun b o e hx=>?_,I.base.tups,I.base.frzs,I.base.tbls⟩,?_,fun y c' e=>?_,I.free,I.freeC,fun p hp=>?_,fun b u e=>?_,by simp,I.hh⟩
 ·obtain ⟨sl,e1⟩:=I.base.slot b o e n hb hx
  exact ⟨sl,k b _ (neC b o e) e1⟩
 ·obtain ⟨o',e1⟩:=I.base.there b o e hx
  exact ⟨o',k b _ (neC b o e) e1⟩
 ·obtain ⟨m,hn,_⟩:=I.loc
  refine ⟨m,hn.sameBut hs (Ne.symm (I.cne n c hc)),fun j y v' e1 e2 e3=>?_⟩
  rw [List.getElem?_replicate] at e2
  split at e2 <;> cases e2
 ·by_cases q:c'=c
  ·subst q; exact ⟨none,hv⟩
  ·obtain ⟨v,o,ho,hd⟩:=I.cell y c' e
   exact ⟨v,o,k c' o q ho,hd⟩
 ·obtain ⟨q1,q2,q3,q4,q5⟩:=I.pin p hp
  refine ⟨k _ _ ?_ q1,q2,q3,q4,q5⟩
  intro z
  rw [z,hoc] at q1; cases q1
  exact q5 vc hdc
 ·refine (I.hok b u e).stay (fun d v hd q=>k d v ?_ q) (fun _ q=>q) fun _ _ q=>q
  rintro rfl
  have fc:=I.freeC n d hc
  rcases hd with rfl | hd
  ·rw [fc] at e; cases e
  ·rw [fc] at hd; cases hd
end
noncomputable def Xb (X:Cx) (pn:List (Addr×Obj)) (ξ:Value->Shared->Prop):Cx:={ X with pn:=X.pn ++ pn,xe:=ξ }
section
variable {X:Cx} {pins pn:List (Addr×Obj)} {σ:L2.St} {H:Hp} {s:Shared} {ξ:Value->Shared->Prop}
theorem ok_b (ok:X.Ok):(Xb X pn ξ).Ok:=⟨ok.mod,ok.kind,ok.glob,ok.blt,ok.above,ok.inj,ok.has,ok.cab,ok.hd,ok.frames,ok.stk,ok.exf,ok.bs,ok.bsz,ok.noex,ok.exfs,ok.funs,ok.frf⟩
theorem ok_unb (ok:(Xb X pn ξ).Ok):X.Ok:=⟨ok.mod,ok.kind,ok.glob,ok.blt,ok.above,ok.inj,ok.has,ok.cab,ok.hd,ok.frames,ok.stk,ok.exf,ok.bs,ok.bsz,ok.noex,ok.exfs,ok.funs,ok.frf⟩
theorem inv_b (I:Inv X pn σ H s):Inv (Xb X pn ξ) [] σ H s :=
 ⟨ok_b I.ok,I.os,I.bare,I.base,I.loc,I.cell,I.free,I.freeC,fun p hp=>I.pin p (by simpa [Xb] using hp),I.hok,I.len,I.hh⟩
theorem Z2 (I:Inv (Xb X pn ξ) pins σ H s):Inv X pn σ H s :=
 ⟨ok_unb I.ok,I.os,I.bare,I.base,I.loc,I.cell,I.free,I.freeC,fun p hp=>I.pin p (List.mem_append_left _ hp),I.hok,I.len,I.hh⟩
theorem sp_unb {D:Ends} {f:Flow} (h:SP (Xb X pn ξ) pins D f s):SP X pn D f s:=by
 cases f with
 | next=>obtain ⟨σ',H',I,q⟩:=h; exact ⟨σ',H',Z2 I,q⟩
 | brk=>obtain ⟨σ',H',I,q⟩:=h; exact ⟨σ',H',Z2 I,q⟩
 | cont=>obtain ⟨σ',H',I,q⟩:=h; exact ⟨σ',H',Z2 I,q⟩
 | ret u=>obtain ⟨v,σ',H',I,r,q⟩:=h; exact ⟨v,σ',H',Z2 I,r,q⟩
end
section
variable {X:Cx} {i:Nat} {n P:Str} {np hpos pos:Pos} {b₀:Stmt} {suite body:List Stmt} {CP:Addr} {tb:(L2.St->XK)->TS} {th:TS}
noncomputable def takes (X:Cx) (CP:Addr) (i:Nat) (th:TS) (D:Ends):L2.St->XK:=fun σ' cls dx H'=>∃ C,cls = .ref C/\exmOne X.K (.ref C) (.ref CP)=some true /\
 ∀ ea oe u,H' ea=none->oe.cls = .ref C->PySem.W.notCls oe=true->oe.dict=dx->th { nx:=fun _ _=>False,rt:=D.rt } (σ'.set i (some (.ref ea))) (upd H' ea (.frz oe u))
theorem ps_try (hc:X.calm=true) (ex:X.ex=[]) (stk:X.stack=X.env :: X.outer) (fr:X.env.frame=some X.env.locals) (hN:X.N.Nodup) (hi:X.N[i]? = some n) (hl:Loc X.env.scope n) (hf:X.fn n=true∨X.env.scope.names.lookup n=some .local)
  (hg:Gl X P) (hm:X.mg P=some (.ref CP)) (hd:(P == ("__debug__" : Str))=false)
  (hb:∀ (pn:List (Addr×Obj)) (ξ:Value->Shared->Prop) (EX:L2.St->XK),Meets (Xb X pn ξ) EX->PassesOwn (model X.prog X.w) X.A X.env ξ->PSs (Xb X pn ξ) body (tb EX))
  (hh:∀ ea,PSs (Xh X ea) (b₀ :: suite) th) :
  PS X (.Try body [.ExceptHandler (some (.Name P np)) (some n) (b₀ :: suite) hpos] [] [] pos) (fun D σ H=>tb (takes X CP i th D) D σ H):=by
 intro pins s σ H D I h
 refine wpAny_Try_except ?_
 refine wpAny_mono (hb pins (fun e s₁=>wpAny (model X.prog X.w) X.A (noteFrame e X.env) (fun _ s₂=>wpAny (model X.prog X.w) X.A (setFlight e none) (fun _ s₃ =>
   wpAny (model X.prog X.w) X.A (handleBy e X.env [.ExceptHandler (some (.Name P np)) (some n) (b₀ :: suite) hpos]) (SP X pins D) X.xe s₃) X.xe s₂) X.xe s₁)
  (takes X CP i th D) ?_ PassesOwn.looking [] s σ H D (inv_b I) h) (fun f s1 q=>?_) fun _ _ q=>q
 ·intro pins2 σ1 H1 s1 E' e s' I1 hE hx
  obtain ⟨ea,ob,vs,B,H',rfl,ho,hgn,F,q⟩:=hx
  have I0:Inv X pins σ1 H1 s1:=Z2 I1
  have I':Inv X pins σ1 H' s':=Vbr I0 ho hgn F
  obtain ⟨C,hcl,hx1,hx2⟩:=hE _ _ H' q
  have fl:FlyX B (X.env :: X.outer) ea ob vs .none s'.heap:=by have:=F.fl; rw [show (Xb X pins _).stack=X.env :: X.outer from stk] at this; exact this
  have hfr:X.A.frames=some (X.env :: X.outer):=by rw [I.ok.frames,stk]
  have F0:s'.heap.FunFrames B X.stack:=F.fl.fun_
  have step:∀ (h':Heap) (tk:Nat),B.StaysIn h'->s'.heap.UpToSlots h'->Inv X pins σ1 H' { s' with heap:=h',toks:=tk }:=fun h' tk k1 k2=>inv_fly ex stk fr I0 I' F.old F.trk fl.stay k1 k2 F0
  have hea:∀ o,B.get? ea≠some o:=fun o z=>by rw [fl.new] at z; cases z
  have e1:H' ea=none:=by
   cases qq:H' ea with
   | none=>rfl
   | some u=>obtain ⟨o,z⟩:=F.trk ea u qq; exact absurd z (hea o)
  refine note_on hfr fr fl fun h4 fl4 up4=>?_
  refine Zbn (s:={ s' with heap:=h4 }) fl4 fun h5 fl5 up5=>?_
  have I5:=step h5 s'.toks fl5.stay (up4.trans up5)
  obtain ⟨T5,he5⟩:=fl5.tr.there
  have nfr:∀ (h':Heap) (o:Obj),h'.get? ea=some o->(∃ vs,o.data = .fields vs)->h'.FunFrames B (X.env :: X.outer)->ea≠X.env.locals/\ea ∉ X.fs:=fun h' o z ⟨vs,zd⟩ FF=>by
   have hn:ea ∉ frs (X.env :: X.outer):=fun hm=>by
    obtain ⟨_,o',ho',nf⟩:=FF.mem hm
    rw [z] at ho'; cases ho'
    exact nf vs zd
   unfold frs at hn
   rw [List.filterMap_cons,fr] at hn
   exact ⟨fun y=>hn (by rw [y]; exact List.mem_cons_self),fun y=>hn (List.mem_cons_of_mem _ y)⟩
  have hfrs:frs X.stack=X.env.locals :: X.fs:=by rw [stk]; unfold frs; rw [List.filterMap_cons,fr]; rfl
  obtain ⟨m1,m2⟩:=nfr h5 _ he5 ⟨_,rfl⟩ fl5.fun_
  have nst:ea ∉ frs X.stack:=by
   rw [hfrs]
   intro z
   rcases List.mem_cons.mp z with z | z
   ·exact m1 z
   ·exact m2 z
  have new1:∀ o,s1.heap.get? ea≠some o:=fun o z=>by
   obtain ⟨o',z'⟩:=F.old ea o z nst
   exact hea o' z'
  have h00:X.s₀.heap.get? ea=none:=by
   cases qq:X.s₀.heap.get? ea with
   | none=>rfl
   | some o =>
    obtain ⟨o1,z1⟩:=I0.base.there ea o qq (by rw [ex]; simp)
    exact absurd z1 (new1 o1)
  have trk:∀ {h:Heap} {oe:Obj} {ws:Array Value},Inv X pins σ1 H' { s' with heap:=h }->h.get? ea=some oe->oe.data = .fields ws->ws[2]? = some .none->Inv (Xh X ea) pins σ1 (upd H' ea (.frz oe (.ext fun _=>True))) { s' with heap:=h }:=fun {h oe ws} J he hd h2=>by
   refine inv_h (u:=.ext fun _=>True) (Wbp (φ:=fun _=>True) J e1 he h00 m1 (fun v z=>by rw [hd] at z; cases z) (fun p hp=>?_) trivial fun _ _ _ _=>trivial) (Yc) hd h2
   obtain ⟨q1,_⟩:=I0.pin p hp
   rintro rfl
   exact new1 _ q1
  have I5h:=trk I5 he5 rfl (by rw [Ybf]; exact F.ctx)
  refine wpAny_handleBy_cons (codeAny_handlers_test (Vn (X:=Xh X ea) I5h hg hm ?_ hd)) (by intro q; cases q)
  have LT:Looks (model X.prog X.w) h5 (typeOf (.ref ea)) (.ref C):=ExcAt.ty ⟨_,he5,hcl⟩
  refine (exm_one I5.kIn LT hx1).at ?_
  refine codeAny_handlers_suite_as ?_
  refine Zbn (s:={ s' with heap:=h5 }) fl5 fun h6 fl6 up6=>?_
  have I6:=step h6 s'.toks fl6.stay ((up4.trans up5).trans up6)
  obtain ⟨T6,he6⟩:=fl6.tr.there
  have I6h:=trk I6 he6 rfl (by rw [Ybf]; exact F.ctx)
  refine Xab (X:=Xh X ea) (i:=i) (v:=.ref ea) I6h hN hi hl rfl (fun s7 I7=>?_) hf
  refine wpAny_mono (hh ea pins s7 _ _ _ I7 (hx2 ea _ _ e1 hcl rfl rfl)) (fun f s8 z=>?_) fun _ _ z=>z.elim
  cases f with
  | next=>obtain ⟨_,_,_,z⟩:=z; exact z.elim
  | brk=>obtain ⟨_,_,_,z⟩:=z; exact z.elim
  | cont=>obtain ⟨_,_,_,z⟩:=z; exact z.elim
  | ret u =>
   obtain ⟨v,σ8,H8,I8,rv,z⟩:=z
   have I8':=inv_unh hc I.ok I8
   rcases hl with hl | hl
   ·obtain ⟨m,hn,_⟩:=I8'.loc
    refine wpAny_nameGoes (show X.env.kindOf n=some .local from hl) hn (by rw [I.ok.kind]; rfl) fun h9 m9 hn9 hs9=>?_
    exact ⟨v,_,H8,inv_gone I8' hn9 hs9,rv,z⟩
   ·obtain ⟨c,hc⟩:=I.ok.has n (.inl hl)
    obtain ⟨v0,hv0⟩:=I8'.cell n c hc
    have hf':X.fn n=true:=hf.resolve_right fun z=>by rw [hl] at z; cases z
    exact Ybu I.ok.kind (show X.env.kindOf n=some .cell from hl) hc hv0 fun h9 v9 s9=>⟨v,_,H8,Zbq I8' hc hf' v9 s9,rv,z⟩
 ·have q:=sp_unb q
  cases f with
  | next=>exact wpAny_execs_nil q
  | ret v=>exact q
  | brk=>exact q
  | cont=>exact q
end
end DW
end
section
set_option maxHeartbeats 2000000
namespace DW
open PySem PySem.W PySem.Spec PyProof.Rows L2 Builtin.ObjectAttr
noncomputable def Vbs:List Value->Bool
 | .ref _ :: r=>Vbs r
 | l=>l == bmVE
noncomputable def excOver (K:Frag) (C:Addr):Bool:=(clsIn K C).any fun cd=>Vbs cd.mro && !cd.mro.isEmpty
section
variable {prog:Program} {w:World} {A:Around} {E:Value->Shared->Prop} {s:Shared} {K:Frag} {x C:Addr} {R:Result->Shared->Prop}
end
end DW
end
section
set_option maxHeartbeats 2000000
namespace DW
open PySem PySem.W PySem.Spec PyProof.Rows L2
section
variable {prog:Program} {w:World} {A:Around} {E:Value->Shared->Prop} {h:Heap} {g:Array GenState} {d:Drawn} {t:Nat} {os:OsState}
variable {nm q:Str} {C N:Addr} {bs bm bmB:List Value} {hdct:Bool} {sn:List Str} {sub:List Value} {ab:Bool} {col:Option Bool} {dd:Option Addr} {k0 k1 k2 k3 k5:Option Value} {B newId initId:String}
end
section
variable {prog:Program} {w:World} {A:Around} {E:Value->Shared->Prop} {s:Shared} {env:Env}
variable {nm q:Str} {C N:Addr} {bs bm bmB:List Value} {hdct:Bool} {sn:List Str} {sub:List Value} {ab:Bool} {col:Option Bool} {dd:Option Addr} {k0 k1 k2 k3 k5:Option Value} {B newId initId:String}
end
end DW
end
section
set_option maxHeartbeats 2000000
namespace DW
open PySem PySem.W PySem.Spec PyProof.Rows L2
noncomputable abbrev errObj (C t:Addr) (d:Option Addr):Obj:={ cls:=.ref C,dict:=d,data:=.fields #[.ref t,.none,.none,.none,.bool false,.none] }
noncomputable def ErrO (a C:Addr) (d:Option Addr):HO:=.ext fun h=>∃ t,h.get? a=some (errObj C t d)
section
variable {P:Program} {w:World} {H:Hp} {h h':Heap} {a C t:Addr} {d:Option Addr} {o:HO} {fs:List (Str×V)} {mA:Str->Option Value}
noncomputable def drop (H:Hp) (a:Addr):Hp:=fun b=>if b=a then none else H b
end
structure ErrC (K:Frag) (C:Addr):Prop where
 ov:excOver K C=true
 ob:mroIn K C (.type "object")=some true
 hd:hasDictIn K C=true
 sa:findIn K (.ref C) "__setattr__" = some (some (.builtin "object.__setattr__"))
section
variable {X:Cx} {pins:List (Addr×Obj)} {σ:L2.St} {H:Hp} {s:Shared} {a C dx:Addr} {fs:List (Str×V)} {f:Str} {E:Value->Shared->Prop}
theorem ErrC.has (c:ErrC X.K C):(clsIn X.K C).any (·.hasDict)=true:=c.hd
end
noncomputable def spI (K:Frag) (xs:List Str):Sp:=fun vs H Q E=>∃ a C ys,vs = .ref a :: ys/\ys.length=xs.length/\H a=some (ErrO a C none)/\ErrC K C/\(∀ x∈xs,Zan K C x) /\
 ∀ dx,H dx=none->dx≠a->Q .non (upd (upd H dx (DcO dx (xs.zip ys))) a (ErrO a C (some dx)))
noncomputable def excInI (K:Frag) (C:Addr) (bmB:List Value) (newId:String) (fa:Addr):Bool:=match K.lookup C with
 | some ⟨.type "type",_,.cls cd,sl⟩=>(match cd.mro,sl.toList with
  | .ref C' :: bm,[_,_,_,_,some (.builtin n),_]=>C' == C && n == newId && !cd.hasDel && tailIn K bmB bm && nsOkIn K cd.ns && nsIn K cd.ns "__init__" == some (some (.ref fa))
  | _,_=>false)
 | _=>false
section
variable {X:Cx} {E:XK} {x:Str} {C fa:Addr} {np cpos pos:Pos} {args:List Expr} {t:TA} {k:Nat} {fd:FuncData} {sf:Str} {xs:List Str}
end
end DW
end
section
set_option maxHeartbeats 2000000
namespace DW
open PySem PySem.Spec PyProof.Rows L2
noncomputable def low (K:PySem.W.Frag) (sp:DSp):Sp:=fun vs H Q _=>∃ ds θ μ Qd,WOk K H θ μ/\Rps K H θ μ ds vs/\sp ds μ Qd/\Fin K H θ μ Qd Q
noncomputable def FinX (K:PySem.W.Frag) (H:Hp) (θ:List Addr) (μ:Mem) (Xd:QX) (E:XK):Prop:=∀ (H':Hp) (θ':List Addr) (μ':Mem) (c:String) (ks:List String) (ds:List D),WOk K H' θ' μ'->Grow H θ μ H' θ' μ'->Xd c ks ds μ'->XLand K E H' θ' μ' c ks ds
noncomputable def lowX (K:PySem.W.Frag) (sp:DSpX):Sp:=fun vs H Q E=>∃ ds θ μ Qd Xd,WOk K H θ μ/\Rps K H θ μ ds vs/\sp ds μ Qd Xd/\Fin K H θ μ Qd Q/\FinX K H θ μ Xd E
theorem passE {X:Cx}:Wa3 (CXE X.prog X.w) X E0:=fun _ _ _ _ _ _ _ h=>by
 obtain ⟨_,_,_,_,_,_,_,_,_,q⟩:=h
 exact q.elim
noncomputable def ClsVal (mg:Str->Option Value) (t:String) (v:V):Prop :=
 (∃ C,v = .ref C/\mg (Str.ofString t)=some (.ref C))∨(v = .ty t/\mg (Str.ofString t)=none/\bootBuiltins (Str.ofString t)=some (.type t)/\Str.ofString t≠"__name__")
noncomputable def Vo (mg:Str->Option Value):List String->List V->Prop
 | [],[]=>True
 | t :: ts,v :: vs=>ClsVal mg t v/\Vo mg ts vs
 | _,_=>False
noncomputable def clsU:V->Value
 | .ref a=>.ref a
 | .ty n=>.type n
 | _=>.none
noncomputable def IsxAt (K:PySem.W.Frag) (mg:Str->Option Value) (tt:Bool) (ts:List String) (tab:List (String×Bool)):Prop:=∃ vs,Vo mg ts vs/\∀ p∈tab,∃ C,PySem.W.nsIn K mainGlobals (Str.ofString p.1)=some (some (.ref C))/\ExcCls K C /\
 (if tt=true then PySem.W.kitAny K (.ref C) (vs.map clsU)=some p.2 else ∃ v,vs=[v]/\PySem.W.kitOne K (.ref C) (clsU v)=some p.2)
noncomputable def HdlAt (K:PySem.W.Frag) (mg:Str->Option Value) (P:String) (tab:List String):Prop:=∃ CP,mg (Str.ofString P)=some (.ref CP)/\∀ c∈tab,∃ C,PySem.W.nsIn K mainGlobals (Str.ofString c)=some (some (.ref C))/\PySem.W.exmOne K (.ref C) (.ref CP)=some true
noncomputable def RseAt (K:PySem.W.Frag) (mg:Str->Option Value) (c:String):Prop:=∃ C,PySem.W.nsIn K mainGlobals (Str.ofString c)=some (some (.ref C))/\mg (Str.ofString c)=some (.ref C)/\PySem.W.excIn K C bmVE "ValueError.__new__" = true
noncomputable def IniAt (P:Program) (w:World) (K:PySem.W.Frag) (mg:Str->Option Value) (base:Heap) (c:String) (ks:List String):Prop:=∃ (C fa:Addr) (fd:FuncData) (sf:Str),PySem.W.nsIn K mainGlobals (Str.ofString c)=some (some (.ref C))/\mg (Str.ofString c)=some (.ref C) /\
 excInI K C bmVE "ValueError.__new__" fa=true/\PySem.W.isFn K (.ref fa)=true/\ErrC K C/\(∀ y∈ks.map (fun k=>Str.ofString k),Zan K C y)/\Binds K fd (sf :: ks.map (fun k=>Str.ofString k)) []/\ks≠[]/\ks.length<=9 /\
 FnOk P w K mg base (CXE P w) 1 fa fd (sf :: ks.map (fun k=>Str.ofString k)) (spI K (ks.map (fun k=>Str.ofString k)))
noncomputable def EflAt (K:PySem.W.Frag) (f:String) (tab:List String):Prop:=∀ c∈tab,∃ C,PySem.W.nsIn K mainGlobals (Str.ofString c)=some (some (.ref C))/\ExcCls K C/\Zan K C (Str.ofString f)/\PySem.W.hasDictIn K C=true
noncomputable def DinAt (K:PySem.W.Frag) (mg:Str->Option Value) (x:Str) (ks:List (List Nat)):Prop:=∃ a,mg x=some (.ref a)/\dicOk K a=true/\(W5 K a).map (fun p=>p.1.cps.toList)=ks
noncomputable def DspAt (P:Program) (w:World) (K:PySem.W.Frag) (mg:Str->Option Value) (base:Heap) (k:Nat) (x:Str) (ks:List (List Nat)) (sp:DSpX):Prop:=∃ a,mg x=some (.ref a)/\dicOk K a=true/\(W5 K a).map (fun p=>p.1.cps.toList)=ks /\
 ∀ ds μ Q Xq,sp ds μ Q Xq->∃ t r fa fd ps sp',ds = .str t :: r/\KTD.datumAt (⟨t.toArray⟩:Str) (W5 K a)=some fa/\Binds K fd ps []/\FnOk P w K mg base (CXE P w) k fa fd ps (lowX K sp')/\sp' r μ Q Xq
noncomputable def Yk (X:Cx):Rf->DSp->Prop
 | .fn x,sp=>∃ (fa:Addr) (fd:FuncData) (ps:List Str) (k:Nat),X.mg x=some (.ref fa)/\PySem.W.keepIn X.K (.ref fa)=true/\Binds X.K fd ps []/\FnOk X.prog X.w X.K X.mg X.base (CXE X.prog X.w) k fa fd ps (low X.K sp)/\Room k X.A
 | .mth c m,sp=>∃ (C fa:Addr) (fd:FuncData) (ps:List Str) (k:Nat),PySem.W.nsIn X.K mainGlobals (Str.ofString c)=some (some (.ref C))/\Cls X.K C/\Meth X.K C (Str.ofString m) fa/\Binds X.K fd ps []/\FnOk X.prog X.w X.K X.mg X.base (CXE X.prog X.w) k fa fd ps (low X.K sp)/\Room k X.A
 | .mk c,sp=>∃ (C fa:Addr) (fd:FuncData) (ps:List Str) (k:Nat),PySem.W.nsIn X.K mainGlobals (Str.ofString c)=some (some (.ref C))/\X.mg (Str.ofString c)=some (.ref C)/\Mk X.K C fa/\Binds X.K fd ps []/\FnOk X.prog X.w X.K X.mg X.base (CXE X.prog X.w) k fa fd ps (low X.K sp)/\Room (k + 1) X.A
 | .fld c f,_=>∃ C:Addr,PySem.W.nsIn X.K mainGlobals (Str.ofString c)=some (some (.ref C))/\Cls X.K C/\Zan X.K C (Str.ofString f)
 | .fnX x sp,_=>∃ (fa:Addr) (fd:FuncData) (ps:List Str) (k:Nat),X.mg x=some (.ref fa)/\PySem.W.keepIn X.K (.ref fa)=true/\Binds X.K fd ps []/\FnOk X.prog X.w X.K X.mg X.base (CXE X.prog X.w) k fa fd ps (lowX X.K sp)/\Room k X.A
 | .mthX c m sp,_=>∃ (C fa:Addr) (fd:FuncData) (ps:List Str) (k:Nat),PySem.W.nsIn X.K mainGlobals (Str.ofString c)=some (some (.ref C))/\Cls X.K C/\Meth X.K C (Str.ofString m) fa/\Binds X.K fd ps []/\FnOk X.prog X.w X.K X.mg X.base (CXE X.prog X.w) k fa fd ps (lowX X.K sp)/\Room k X.A
 | .mkX c sp,_=>∃ (C fa:Addr) (fd:FuncData) (ps:List Str) (k:Nat),PySem.W.nsIn X.K mainGlobals (Str.ofString c)=some (some (.ref C))/\X.mg (Str.ofString c)=some (.ref C)/\Mk X.K C fa/\Binds X.K fd ps []/\FnOk X.prog X.w X.K X.mg X.base (CXE X.prog X.w) k fa fd ps (lowX X.K sp)/\Room (k + 1) X.A
 | .rse c,_=>RseAt X.K X.mg c
 | .lam,_=>∃ tc tP:Addr,PySem.W.tabIn X.K lamDef=some (tc,tP)/\X.env.code = .ref tc/\X.env.qual ++ "<lambda>" = lamQ/\PySem.W.CodeHd X.base tc tP/\X.base.BuiltinsAt X.mg tP/\mainGlobals≠tP
 | .din x ks,_=>DinAt X.K X.mg x ks
 | .dsp x ks sp,_=>∃ k:Nat,Room k X.A/\DspAt X.prog X.w X.K X.mg X.base k x ks sp
 | .fnM x,sp=>∃ (fa:Addr) (fd:FuncData) (ps:List Str),X.mg x=some (.ref fa)/\PySem.W.keepIn X.K (.ref fa)=true/\Binds X.K fd ps []/\FnOk X.prog X.w X.K X.mg X.base (CXE X.prog X.w) 15 fa fd ps (low X.K sp)/\Room 15 X.A
 | .rsi c ks,_=>IniAt X.prog X.w X.K X.mg X.base c ks/\Room 2 X.A
 | .efl f tab,_=>EflAt X.K f tab
 | .hdl P tab,_=>HdlAt X.K X.mg P tab
 | .isx tt ts tab,_=>IsxAt X.K X.mg tt ts tab
noncomputable def Wo (X:Cx) (x:Str) (d:D):Prop:=∃ (u:Value) (v:V),X.mg x=some u/\RelV v u/\∀ H θ μ,Rp X.K H θ μ d v
structure CtxOk (X:Cx) (c:Ctx):Prop where
 N:X.N=c.N
 nd:c.N.Nodup
 vis:∀ x,c.vis x=true->Vis X.env.scope x
 loc:∀ x,c.loc x=true->Loc X.env.scope x/\(X.fn x=true∨X.env.scope.names.lookup x=some .local)
 isl:∀ x,isLocal c x=true->X.env.scope.names.lookup x=some .local
 glb:∀ x,c.glb x=true->Gl X x
 clo:∀ x,(c.names.lookup x=some .cell∨c.names.lookup x=some .free)->(X.env.kindOf x=some .cell∨X.env.kindOf x=some .free)
 blt:∀ x,c.blts.contains x=true->X.mg x=none
 calm:c.calm=true->X.calm=true
 room:∃ k,Room k X.A
 pas:PassesOwn (model X.prog X.w) X.A X.env X.xe
theorem V4 {c:Ctx} {i:Nat} {x:Str} (h:c.at_ i x=true):c.N[i]? = some x:=by
 unfold Ctx.at_ at h
 split at h
 ·rename_i y e; rw [e,of_decide_eq_true h]
 ·cases h
theorem Zh {e:Expr} {es:List Expr} {env:Env} (h:notStar e=true):starEach (e :: es) env=(false,eval e env) :: starEach es env:=by
 cases e <;> first | rfl | exact (Bool.false_ne_true h).elim
theorem Wm {c:Ctx} {pos:Pos} {env:Env}:∀ {es:Es} {as:List Expr},mEs c es as=true->(backTo pos (starEach as env)).any (·.1)=false
 | .nil,as,h=>by
  have:as=[]:=by simpa [mEs] using h
  subst this; rfl
 | .cons e es,as,h=>by
  cases as with
  | nil=>simp [mEs] at h
  | cons a as =>
   simp only [mEs,Bool.and_eq_true] at h
   rw [Zh h.1.2]
   show (false || (backTo pos (starEach as env)).any (·.1))=false
   rw [Wm h.2]; rfl
theorem Za2 {c:Ctx}:∀ {es:Es} {as:List Expr},mEs c es as=true->Xv es=as.length
 | .nil,as,h=>by
  have:as=[]:=by simpa [mEs] using h
  subst this; rfl
 | .cons e es,as,h=>by
  cases as with
  | nil=>simp [mEs] at h
  | cons a as =>
   simp only [mEs,Bool.and_eq_true] at h
   simp [Xv,Za2 h.2]
theorem Zd {x:Str} (h:We x=false):(x == ("__debug__" : Str))=false/\(x == ("__classdict__" : Str))=false:=by
 unfold We at h
 exact Bool.or_eq_false_iff.mp h
theorem Xbf {op:CmpOp} {e:Expr} (h:Vm e=true):behindInMarks op e=false:=by
 cases e <;> first | rfl | exact (Bool.false_ne_true h).elim
theorem Z3 {e:Expr} {env:Env} (h:Vm e=true):∀ v,foldedSetIterable e env v=pure v:=by
 intro v
 cases e <;> first | rfl | exact (Bool.false_ne_true h).elim
theorem Za6 {e:Expr} (h:Xi e=true):Vbx e:=by
 intro o i
 cases e <;> first | rfl | exact (Bool.false_ne_true h).elim
theorem Van {e:Expr} {t:Option Expr} {n:Nat} {env:Env} (h:Yj e=true):swapsWith e t n env=pure false:=by
 cases e <;> first | rfl | exact (Bool.false_ne_true h).elim
structure Snd (X:Cx) (e:E) (a:Expr):Prop where
 pe:PE X a (LE X.K (wE e))
 pt:PT X a (LT X.K (wT e))
 pw:∀ op vs pos,a = .BoolOp op vs pos->PW X a (LT X.K (wT e))
section
variable {X:Cx}
theorem Yg {a:Expr}:PT X a (LT X.K fun _ _ _=>False):=fun pins s σ H Q I h=>by obtain ⟨_,_,_,_,_,h,_⟩:=h; exact h.elim
theorem lt_bl {t:TE} {w:WE} {σ:L2.St} {H:Hp} {Q:Bool->Hp->Prop} (ht:∀ σ H Q,LE X.K w σ H Q->t σ H Q) (h:LT X.K (fun ρ μ Q=>w ρ μ fun r μ1=>wBl r μ1 Q) σ H Q):Xb1 t σ H Q:=by
 obtain ⟨ρ,θ,μ,Qd,s,h,f⟩:=h
 refine ht σ H _ ⟨ρ,θ,μ,_,s,h,fun r v H1 θ1 μ1 w1 g1 r1 h1=>?_⟩
 cases r with
 | bl b=>exact ⟨b,Vh r1,f b H1 θ1 μ1 w1 g1 h1⟩
 | _=>exact h1.elim
theorem Xaz {p q:CmpOp} {wa wb wc:WE} {σ:L2.St} {H:Hp} {Q:VK}
  (h:LE X.K (fun ρ μ Q=>wa ρ μ fun x μ1=>wb ρ μ1 fun y μ2=>wCmp p x y μ2 fun r μ3=>wBl r μ3 fun t μ3=>if t=true then wc ρ μ3 fun z μ4=>wCmp q y z μ4 Q else Q (.bl false) μ3) σ H Q) :
  Vaw (low2 X.K (wCmp p)) (low2 X.K (wCmp q)) (LE X.K wa) (LE X.K wb) (LE X.K wc) σ H Q:=by
 obtain ⟨ρ,θ,μ,Qd,s,h,f⟩:=h
 refine ⟨ρ,θ,μ,_,s,h,fun x v H1 θ1 μ1 w1 g1 r1 h1=>⟨ρ,θ1,μ1,_,s.grow w1 g1,h1,fun y v2 H2 θ2 μ2 w2 g2 r2 h2=>⟨x,y,θ2,μ2,_,w2,g2.rep r1,r2,h2,fun r v3 H3 θ3 μ3 w3 g3 r3 h3=>?_⟩⟩⟩
 cases r with
 | bl b =>
  refine ⟨b,Vh r3,?_⟩
  have g13:=(g1.trans g2).trans g3
  cases b with
  | true =>
   exact ⟨ρ,θ3,μ3,_,s.grow w3 g13,h3,fun z v4 H4 θ4 μ4 w4 g4 r4 h4=>⟨y,z,θ4,μ4,Qd,w4,(g3.trans g4).rep r2,r4,h4,f.mono (g13.trans g4)⟩⟩
  | false=>exact (f.mono g13).at w3 Vl h3
 | _=>exact h3.elim
theorem le_and {wa wb:WE} {σ:L2.St} {H:Hp} {Q:VK} (h:LE X.K (fun ρ μ Q=>wa ρ μ fun x μ1=>wBl x μ1 fun t μ2=>if t=true then wb ρ μ2 Q else Q (.bl false) μ2) σ H Q):tAndV (LE X.K wa) (LE X.K wb) σ H Q:=by
 obtain ⟨ρ,θ,μ,Qd,s,h,f⟩:=h
 refine ⟨ρ,θ,μ,_,s,h,fun x v H1 θ1 μ1 w1 g1 r1 h1=>?_⟩
 cases x with
 | bl b =>
  refine ⟨b,Vh r1,?_⟩
  cases b with
  | true=>exact ⟨ρ,θ1,μ1,Qd,s.grow w1 g1,h1,f.mono g1⟩
  | false=>exact (f.mono g1).at w1 Vl h1
 | _=>exact h1.elim
theorem le_or {wa wb:WE} {σ:L2.St} {H:Hp} {Q:VK} (h:LE X.K (fun ρ μ Q=>wa ρ μ fun x μ1=>wBl x μ1 fun t μ2=>if t=true then Q (.bl true) μ2 else wb ρ μ2 Q) σ H Q):tOrV (LE X.K wa) (LE X.K wb) σ H Q:=by
 obtain ⟨ρ,θ,μ,Qd,s,h,f⟩:=h
 refine ⟨ρ,θ,μ,_,s,h,fun x v H1 θ1 μ1 w1 g1 r1 h1=>?_⟩
 cases x with
 | bl b =>
  refine ⟨b,Vh r1,?_⟩
  cases b with
  | false=>exact ⟨ρ,θ1,μ1,Qd,s.grow w1 g1,h1,f.mono g1⟩
  | true=>exact (f.mono g1).at w1 Vl h1
 | _=>exact h1.elim
theorem lt_and {wa wb:WT} {σ:L2.St} {H:Hp} {Q:Bool->Hp->Prop} (h:LT X.K (fun ρ μ Q=>wa ρ μ fun t μ1=>if t=true then wb ρ μ1 Q else Q false μ1) σ H Q):tAnd (LT X.K wa) (LT X.K wb) σ H Q:=by
 obtain ⟨ρ,θ,μ,Qd,s,h,f⟩:=h
 refine ⟨ρ,θ,μ,_,s,h,fun b H1 θ1 μ1 w1 g1 h1=>?_⟩
 cases b with
 | true=>exact ⟨ρ,θ1,μ1,Qd,s.grow w1 g1,h1,fun b H2 θ2 μ2 w2 g2 q=>f b H2 θ2 μ2 w2 (g1.trans g2) q⟩
 | false=>exact f false H1 θ1 μ1 w1 g1 h1
theorem lt_or {wa wb:WT} {σ:L2.St} {H:Hp} {Q:Bool->Hp->Prop} (h:LT X.K (fun ρ μ Q=>wa ρ μ fun t μ1=>if t=true then Q true μ1 else wb ρ μ1 Q) σ H Q):tOr (LT X.K wa) (LT X.K wb) σ H Q:=by
 obtain ⟨ρ,θ,μ,Qd,s,h,f⟩:=h
 refine ⟨ρ,θ,μ,_,s,h,fun b H1 θ1 μ1 w1 g1 h1=>?_⟩
 cases b with
 | false=>exact ⟨ρ,θ1,μ1,Qd,s.grow w1 g1,h1,fun b H2 θ2 μ2 w2 g2 q=>f b H2 θ2 μ2 w2 (g1.trans g2) q⟩
 | true=>exact f true H1 θ1 μ1 w1 g1 h1
theorem Vb7 {x:Str} {sp:DSp} {ws:WA} {p pos:Pos} {e:Expr} {es:List Expr} (R:Yk X (.fn x) sp) (hg:Gl X x) (ha:PA X (e :: es) (LA X.K ws)) (hdb:(x == ("__debug__" : Str))=false) (hs:starEach (e :: es) X.env=(false,eval e X.env) :: starEach es X.env)
  (hpl:(backTo pos (starEach es X.env)).any (·.1)=false):PE X (.Call (.Name x p) (e :: es) [] pos) (LE X.K fun ρ μ Q=>ws ρ μ fun ds μ1=>sp ds μ1 Q):=by
 obtain ⟨fa,fd,ps,k,hm,hk,hb,F,hr⟩:=R
 refine PE.wk (pe_call F hr hg hm hk hb .nil passE ha hdb hs hpl) fun σ H Q h=>?_
 obtain ⟨ρ,θ,μ,Qd,s,h,f⟩:=h
 refine ⟨ρ,θ,μ,_,s,h,fun ds vs H1 θ1 μ1 w1 g1 r1 h1=>?_⟩
 dsimp only
 rw [List.append_nil]
 exact ⟨ds,θ1,μ1,Qd,w1,r1,h1,f.mono g1⟩
theorem Zbj {x:Str} {sp:DSp} {p pos:Pos} (R:Yk X (.fn x) sp) (hg:Gl X x) (hdb:(x == ("__debug__" : Str))=false):PE X (.Call (.Name x p) [] [] pos) (LE X.K fun ρ μ Q=>sp [] μ Q):=by
 obtain ⟨fa,fd,ps,k,hm,hk,hb,F,hr⟩:=R
 refine PE.wk (Zb8 F hr hg hm hk hb .nil passE hdb) fun σ H Q h=>?_
 obtain ⟨ρ,θ,μ,Qd,s,h,f⟩:=h
 exact ⟨[],θ,μ,Qd,s.wok,Reps.nil,h,f⟩
end
theorem Ww {c:Ctx}:∀ {cap:List Nat} {cs:List Str},Wk c cap=some cs->cs.length=cap.length/\∀ (j:Nat) (y:Str),cs[j]? = some y->∃ i,cap[j]? = some i/\c.N[i]? = some y
 | [],cs,h=>by simp only [Wk,Option.some.injEq] at h; subst h; exact ⟨rfl,fun j y e=>by simp at e⟩
 | i :: is,cs,h=>by
  simp only [Wk] at h
  split at h
  ·rename_i x r e1 e2
   simp only [Option.some.injEq] at h
   subst h
   obtain ⟨h1,h2⟩:=Ww e2
   refine ⟨by simp [h1],fun j y e=>?_⟩
   cases j with
   | zero=>simp at e; subst e; exact ⟨i,rfl,e1⟩
   | succ j =>
    obtain ⟨i',a1,a2⟩:=h2 j y (by simpa using e)
    exact ⟨i',by simpa using a1,a2⟩
  ·cases h
theorem W9 {X:Cx} {c:Ctx} {scope:Scope} {xs:List Str} {cap:List Nat} {cs:List Str} (C:CtxOk X c) (h1:Wk c cap=some cs) (h:Vas c scope (xs ++ cs) cs=true):CompTxt X xs scope (xs ++ cs) cap:=by
 simp only [Vas,Bool.and_eq_true,List.all_eq_true] at h
 obtain ⟨⟨⟨⟨⟨k1,k2⟩,k3⟩,k5⟩,k6⟩,k7⟩:=h
 obtain ⟨hl,hg⟩:=Ww h1
 refine ⟨by simpa using k1,fun y hy hc=>?_,fun y hy hloc=>?_,of_decide_eq_true k5,fun j y e=>?_,by simp [hl],fun y hy hf=>?_⟩
 ·have:=k2 y hy
  rw [hc] at this
  simpa using this
 ·have:=k3 y hy
  rw [hloc] at this
  simpa using this
 ·have e':cs[j]? = some y:=by
   rw [List.getElem?_append_right (by omega)] at e
   simpa using e
  obtain ⟨i,a1,a2⟩:=hg j y e'
  refine ⟨i,a1,by rw [C.N]; exact a2,?_⟩
  have:=k6 y (List.mem_of_getElem? e')
  simpa using this
 ·have:=k7 y hy
  rw [hf] at this
  refine C.clo y.1 ?_
  simpa using this
theorem Vp {X:Cx} {c:Ctx} {scope:Scope} {xs:List Str} {cs:List Str} (C:CtxOk X c) (h:Vas c scope (xs ++ cs) cs=true) (cl:List (Str×Addr)) (Ca:Addr) (s:Shared) (H:Hp) (ex:List Addr) :
  CtxOk (Wt X (xs ++ cs) scope cl Ca s H ex) (c.in_ (xs ++ cs) scope.names):=by
 simp only [Vas,Bool.and_eq_true,List.all_eq_true] at h
 obtain ⟨⟨⟨⟨⟨k1,k2⟩,k3⟩,k5⟩,k6⟩,k7⟩:=h
 have cel:∀ y,scope.names.lookup y=some .cell->(relabel scope X.env).names.lookup y=some .cell:=fun y z=>relabel_cell z
 have lk:∀ y,scope.names.lookup y=some .local->(relabel scope X.env).names.lookup y=some .local:=fun y z=>lookup_relabel_local z
 refine ⟨rfl,of_decide_eq_true k5,fun y hy=>?_,fun y hy=>?_,fun y hy=>?_,fun y hy=>?_,fun y hy=>?_,C.blt,C.calm,C.room,PassesOwn.never⟩
 ·unfold Ctx.vis at hy
  split at hy
  ·rename_i z; exact .inl (lk y z)
  ·rename_i z; exact .inr (.inl (cel y z))
  ·rename_i z
   rcases relabel_free (env:=X.env) z with q | q
   ·exact .inr (.inr q)
   ·exact .inr (.inl q)
  ·cases hy
 ·unfold Ctx.loc at hy
  split at hy
  ·rename_i z; exact ⟨.inl (lk y z),.inr (lk y z)⟩
  ·rename_i z; exact ⟨.inr (cel y z),.inl (by show (scope.names.lookup y == some .cell)=true; rw [z]; rfl)⟩
  ·cases hy
 ·exact lk y (by simpa [isLocal] using hy)
 ·unfold Ctx.glb at hy
  split at hy
  ·rename_i z
   show (relabel scope X.env).names.lookup y=some .globalImplicit
   exact Wag z
  ·cases hy
 ·rcases hy with hy | hy
  ·exact .inl (cel y hy)
  ·exact (relabel_free (env:=X.env) hy).symm
section
variable {X:Cx}
theorem W7 {c:Ctx} (C:CtxOk X c):∀ {is:List Nat} {ts:List Expr},Xk c is ts=true->PGs X ts (Wa1 is)/\(assignEach ts X.env).length=is.length/\(assignEach ts X.env).findIdx? (·.1)=none
 | [],[],_=>⟨pgs_nil,rfl,rfl⟩
 | [],_ :: _,h=>by simp [Xk] at h
 | _ :: _,[],h=>by simp [Xk] at h
 | i :: is,t :: ts,h=>by
  simp only [Xk,Bool.and_eq_true] at h
  obtain ⟨h1,h2⟩:=h
  cases t with
  | Name x p =>
   simp only [Bool.and_eq_true] at h1
   obtain ⟨k1,k2,k3⟩:=W7 C h2
   obtain ⟨l1,l2⟩:=C.loc x h1.2
   refine ⟨Vb5 (Ybi (by rw [C.N]; exact C.nd) (by rw [C.N]; exact V4 h1.1) l1 l2) k1 rfl,?_,?_⟩
   ·show (assignEach ts X.env).length + 1=_
    rw [k2]; rfl
   ·show List.findIdx? (fun x=>x.1) ((false,assign (.Name x p) X.env) :: assignEach ts X.env)=none
    rw [List.findIdx?_cons]
    simp [k3]
  | _=>simp at h1
theorem Zb6 {c:Ctx} (C:CtxOk X c) {is:List Nat} {tt:Bool} (hcm:tt=true->c.calm=true) {a:Expr} (h:mTg c is tt a=true):PG X a (LG X.K fun d r k=>Yo is tt d r k):=by
 cases tt with
 | false =>
  have h:Xk c is [a]=true:=h
  match is,h with
  | [i],h =>
   cases a with
   | Name x p =>
    simp only [Xk,Bool.and_eq_true] at h
    obtain ⟨⟨h1,h2⟩,_⟩:=h
    obtain ⟨l1,l2⟩:=C.loc x h2
    exact Yb6 (by rw [C.N]; exact C.nd) (by rw [C.N]; exact V4 h1) l1 l2
   | _=>exact (Bool.false_ne_true h).elim
  | [],h=>simp [Xk] at h
  | _ :: _ :: _,h=>simp [Xk] at h
 | true =>
  cases a with
  | Tuple ts k p =>
   obtain ⟨k1,k2,k3⟩:=W7 C (show Xk c is ts=true from h)
   exact pg_tupD (C.calm (hcm rfl)) k1 k2 k3
  | _=>exact (Bool.false_ne_true h).elim
end
theorem tgn {tt:Bool} {a:Expr} {xs:List Str} (h:Yab tt a=some xs):tt=false->xs.length=1:=by
 rintro rfl
 cases a <;> first | (cases h; rfl) | cases h
end DW
end
section
set_option maxHeartbeats 2000000
namespace DW
open PySem PySem.Spec PyProof.Rows L2
section
variable {X:Cx}
theorem Ybr:PGet X (low2 X.K Za4):=by
 intro pins s σ H o i ov iv Q I ro ri h
 obtain ⟨d,e,θ,μ,Qd,wk,rd,re,hw,f⟩:=h
 unfold Za4 at hw
 split at hw
 ·rename_i n j
  obtain ⟨a,rfl,ha⟩:=Ye rd
  cases Zb re
  cases ro
  obtain ⟨t,rfl⟩:=ri
  split at hw
  ·rename_i xs hn
   obtain ⟨ys,hH,rs⟩:=wk.cell n _ a hn ha
   obtain ⟨h0,hw⟩:=hw
   split at hw
   ·rename_i d hd
    obtain ⟨v,e1,e2⟩:=rs.get hd
    obtain ⟨its,rv,pl,hz⟩:=I.list (SqL.of hH)
    obtain ⟨u,eu,ru⟩:=rv.get e1
    have hl:=(List.getElem?_eq_some_iff.mp e1).1
    have hn:=V0
    exact wpAny_getItem_list pl.isList h0 (by omega) (by simpa using eu) ⟨v,H,I,ru,f.at wk e2 hw⟩
   ·exact hw.elim
  ·exact hw.elim
 ·exact hw.elim
theorem Yam {i:Expr} (h:Xi i=true):∀ ov iv new,augStore i ov iv new=(do holding [new,ov,iv] (setItem ov iv new); release [new,ov,iv] []; pure .next):=by
 intro ov iv new
 cases i <;> first | rfl | exact (Bool.false_ne_true h).elim
theorem Yaz {EX:L2.St->XK} {op:Operator} {g:Int->Int->Int} {wo wi we:WE} {D:Ends} {σ:L2.St} {H:Hp} (hg:∀ p q k,Yaf op p q k->∃ i j,p = .int i/\q = .int j/\k (.int (g i j)))
  (h:LS X.K EX (fun Z ρ μ=>wo ρ μ fun x μ1=>wi ρ μ1 fun y μ2=>Za4 x y μ2 fun p μ3=>we ρ μ3 fun q μ4=>Yaf op p q fun v=>Zn x y v μ4 fun μ5=>Z.nx ρ μ5) D σ H) :
  tAugS (LE X.K wo) (LE X.K wi) (LE X.K we) (low2 X.K Za4) (ipI g) (fun o i v H Q=>∃ x y z θ μ k,WOk X.K H θ μ/\Rp X.K H θ μ x o/\Rp X.K H θ μ y i/\Rp X.K H θ μ z v/\Zn x y z μ k/\∀ H' μ',WOk X.K H' θ μ'->Grow H θ μ H' θ μ'->k μ'->Q H') D σ H:=by
 obtain ⟨ρ,θ,μ,Z,s,h,f⟩:=h
 refine ⟨ρ,θ,μ,_,s,h,fun x vx H1 θ1 μ1 w1 g1 r1 h1=>⟨ρ,θ1,μ1,_,s.grow w1 g1,h1,fun y vy H2 θ2 μ2 w2 g2 r2 h2=>?_⟩⟩
 refine ⟨x,y,θ2,μ2,_,w2,g2.rep r1,r2,h2,fun p vp H3 θ3 μ3 w3 g3 r3 h3=>⟨ρ,θ3,μ3,_,s.grow w3 ((g1.trans g2).trans g3),h3,fun q vq H4 θ4 μ4 w4 g4 r4 h4=>?_⟩⟩
 obtain ⟨i,j,rfl,rfl,hk⟩:=hg _ _ _ h4
 cases Zb r3
 cases Zb r4
 refine ⟨i,j,rfl,rfl,x,y,.int (g i j),θ4,μ4,_,w4,((g2.trans g3).trans g4).rep r1,(g3.trans g4).rep r2,Yd,hk,fun H5 μ5 w5 g5 z=>?_⟩
 exact f.nx σ H5 ρ θ4 μ5 (s.grow w5 ((((g1.trans g2).trans g3).trans g4).trans g5)) ((((g1.trans g2).trans g3).trans g4).trans g5) z
theorem augI_add (p q:D) (k:D->Prop) (h:Yaf .Add p q k):∃ i j,p = .int i/\q = .int j/\k (.int (i + j)):=by
 unfold Yaf at h
 split at h
 ·exact ⟨_,_,rfl,rfl,h⟩
 ·exact h.elim
theorem augI_sub (p q:D) (k:D->Prop) (h:Yaf .Sub p q k):∃ i j,p = .int i/\q = .int j/\k (.int (i - j)):=by
 unfold Yaf at h
 split at h
 ·exact ⟨_,_,rfl,rfl,h⟩
 ·exact h.elim
end
end DW
end
section
set_option maxHeartbeats 2000000
namespace DW
open PySem PySem.Spec PyProof.Rows L2
section
variable {K:PySem.W.Frag} {H:Hp} {θ:List Addr} {μ:Mem} {κ κ':Type} [DecidableEq κ] [DecidableEq κ']
end
section
variable {K:PySem.W.Frag} {H:Hp} {θ:List Addr} {μ:Mem}
end
section
variable {X:Cx}
end
end DW
end
section
set_option maxHeartbeats 2000000
namespace DW
open PySem PySem.Spec PyProof.Rows L2
section
variable {X:Cx}
end
end DW
end
section
set_option maxHeartbeats 4000000
namespace DW
open PySem
section
variable {prog:Program} {w:World} {A:Around} {E:Value->Shared->Prop} {s:Shared}
noncomputable def EnumG (h:Heap) (e it:Addr) (i:Nat):Prop:=(∃ old,IsEnum h e it i old) ∨
 ∃ (a:Nat) (b:Bool) (o:Obj) (z:Value),h.get? e=some { cls:=.type "enumerate",dict:=none,data:=.fields #[rawInt (a:Int),.bool b,.ref it,rawInt (i:Int),.none,z],slots:=#[] }/\h.get? a=some o/\a≠e/\a≠it
theorem EnumG.kept {h h':Heap} {e it:Addr} {i:Nat} (hG:EnumG h e it i) (k:∀ c o,h.get? c=some o->h'.get? c=some o):EnumG h' e it i:=by
 rcases hG with ⟨old,q⟩ | ⟨a,b,o,z,q,qa,r⟩
 ·exact .inl ⟨old,k _ _ q⟩
 ·exact .inr ⟨a,b,o,z,k _ _ q,k _ _ qa,r⟩
end
end DW
end
section
set_option maxHeartbeats 2000000
namespace DW
open PySem PySem.Spec PyProof.Rows L2
section
variable {X:Cx}
end
end DW
end
section
set_option maxHeartbeats 2000000
namespace DW
open PySem PySem.Spec PyProof.Rows L2 PySem.SeqAt
section
variable {X:Cx}
theorem vals_ints:∀ {ns:List Int} {its:List Value},Vals (ns.map V.int) its->IntsAre its ns
 | [],its,h=>by cases h; exact .nil
 | n :: ns,its,h=>by
  cases h with
  | cons r rr=>obtain ⟨t,rfl⟩:=r; exact .cons n t (vals_ints rr)
end
end DW
end
section
set_option maxHeartbeats 2000000
namespace DW
open PySem PySem.Spec PyProof.Rows L2 PySem.SeqAt PySem.Builtin PySem.Builtin.Str
section
variable {X:Cx}
end
end DW
end
section
set_option maxHeartbeats 2000000
namespace DW
section
open PySem PySem.SeqAt
open AutoSeq1 (wpAny_loadPart')
open MeetsSeq MeetsSeq2 MeetsSeq3 SeqRoads2
end
open PySem PySem.Spec PyProof.Rows L2 PySem.SeqAt
section
variable {X:Cx}
end
end DW
end
section
set_option maxHeartbeats 4000000
namespace DW
open PySem PySem.Spec PyProof.Rows L2 PySem.SeqAt
open PySem.AutoSeq1 (wpAny_loadPart')
theorem IsItem.keep {h h':Heap} {v:Value} {x:Itm} (k:∀ b o,h.get? b=some o->h'.get? b=some o) (i:IsItem h v x):IsItem h' v x:=by
 obtain ⟨p,o,t,u,n,e,g,r⟩:=i
 exact ⟨p,o,t,u,n,e,k _ _ g,r⟩
section
variable {prog:Program} {w:World} {A:Around} {E:Value->Shared->Prop}
end
section
variable {X:Cx}
end
end DW
end
section
set_option maxHeartbeats 2000000
namespace DW
open PySem PySem.Spec PyProof.Rows L2
section
variable {X:Cx}
end
end DW
end
section
namespace DW
open PySem PySem.Spec PyProof.Rows L2
section
variable {X:Cx}
end
end DW
end
section
namespace DW
open PySem PySem.Spec PyProof.Rows L2
section
variable {X:Cx}
variable {σ:L2.St} {H:Hp} {pins:List (Addr×Obj)} {l:List Nat} {rest:List (Sem Value)} {Q:List Nat->Prop}
end
end DW
end
section
set_option maxHeartbeats 2000000
namespace DW
open PySem PySem.Spec PyProof.Rows L2
section
variable {K:PySem.W.Frag} {H:Hp} {θ:List Addr} {μ:Mem} {f:String} {d:D} {v:V}
end
section
variable {X:Cx}
theorem Xbx {o:Expr} {m:Str} {env:Env} (h:Vbw o=true):attributeBase o m env (eval o env)=eval o env:=by
 cases o with
 | Call f as ks p=>obtain ⟨x,q,a,r,rfl,rfl⟩:=Zaa h; rfl
 | _=>first | rfl | exact (Bool.false_ne_true h).elim
end
end DW
end
section
set_option maxHeartbeats 2000000
namespace DW
open PySem PySem.Spec PyProof.Rows L2
section
variable {X:Cx}
theorem Y4 {mg:Str->Option Value}:∀ {ts:List String} {vs:List V} {us:List Value},Vo mg ts vs->Vals vs us->us=vs.map clsU
 | [],[],_,_,r=>by cases r; rfl
 | [],_ :: _,_,h,_=>h.elim
 | _ :: _,[],_,h,_=>h.elim
 | t :: ts,v :: vs,_,h,r=>by
  obtain ⟨h1,h2⟩:=h
  cases r with
  | cons r1 r2 =>
   rw [Y4 h2 r2]
   rcases h1 with ⟨C,rfl,_⟩ | ⟨rfl,_⟩
   ·cases r1; rfl
   ·cases r1; rfl
theorem Wv {c:Ctx} (hgl:∀ x,c.glb x=true->Gl X x):∀ {ts:List String} {as:List Expr} {vs:List V},mNs c ts as=true->Vo X.mg ts vs->PA X as (fun σ H Q=>Q vs H)
 | [],[],[],_,_=>Vr
 | [],[],_ :: _,_,h=>h.elim
 | [],_ :: _,_,h,_=>by simp [mNs] at h
 | _ :: _,[],_,h,_=>by simp [mNs] at h
 | t :: ts,a :: as,[],_,h=>h.elim
 | t :: ts,a :: as,v :: vs,h,hv=>by
  obtain ⟨h1,h2⟩:=hv
  simp only [mNs,Bool.and_eq_true] at h
  obtain ⟨k1,k2⟩:=h
  cases a with
  | Name z p =>
   simp only [Bool.and_eq_true,Bool.not_eq_true',beq_iff_eq] at k1
   obtain ⟨⟨rfl,k3⟩,k4⟩:=k1
   have r1:=Wv hgl k2 h2
   rcases h1 with ⟨C,rfl,hm⟩ | ⟨rfl,hm,hb,hne⟩
   ·have pe:PE X (.Name (Str.ofString t) p) (tC (.ref C)):=Xbi (hgl _ k3) hm rfl (Zd k4).1
    exact PA.wk (Zg pe r1 rfl) fun σ H Q q=>q
   ·have pe:PE X (.Name (Str.ofString t) p) (tC (.ty t)):=Wap (hgl _ k3) hm hb rfl hne (Zd k4).1
    exact PA.wk (Zg pe r1 rfl) fun σ H Q q=>q
  | _=>simp at k1
theorem Wbv:CallR X (.builtin "isinstance") (fun xs H Q=>∃ a C b t v,xs=[.ref a,v]/\Vo X.mg [t] [v]/\(∃ o u,H a=some (.frz o u)/\o.cls = .ref C)/\ExcCls X.K C/\PySem.W.kitOne X.K (.ref C) (clsU v)=some b/\Q (.bl b) H):=by
 intro pins s σ H xs us Q I r h
 obtain ⟨a,C,b,t,v,rfl,hv,ha,ec,hk,q⟩:=h
 obtain ⟨u1,u2,rfl,rx,ry⟩:=vals2 r
 cases rx
 have e:[u2]=[v].map clsU:=Y4 hv (.cons ry .nil)
 obtain rfl:u2=clsU v:=by simpa using e
 obtain ⟨ox,ux,ha,hcx⟩:=ha
 have hx:ExcAt a C s.heap:=⟨ox,(show ObjOk X.prog X.w H s.heap a (.frz ox ux) from I.hok a _ ha).1,hcx⟩
 exact PySem.W.kia_one (Vaz ec) I.kIn hx hk (fun z=>nomatch z) fun tk=>⟨.bl b,H,I.tok tk,rfl,q⟩
theorem Xbv:CallR X (.builtin "isinstance") (fun xs H Q=>∃ a p C b ts vs,xs=[.ref a,.ref p]/\H p=some (.tup vs)/\Vo X.mg ts vs/\(∃ o u,H a=some (.frz o u)/\o.cls = .ref C)/\ExcCls X.K C/\PySem.W.kitAny X.K (.ref C) (vs.map clsU)=some b/\Q (.bl b) H):=by
 intro pins s σ H xs us Q I r h
 obtain ⟨a,p,C,b,ts,vs,rfl,hp,hv,ha,ec,hk,q⟩:=h
 obtain ⟨u1,u2,rfl,rx,ry⟩:=vals2 r
 cases rx
 cases ry
 obtain ⟨ox,ux,ha,hcx⟩:=ha
 have hx:ExcAt a C s.heap:=⟨ox,(show ObjOk X.prog X.w H s.heap a (.frz ox ux) from I.hok a _ ha).1,hcx⟩
 obtain ⟨_,its,rv,o,h1,h2,n,h3,_⟩:=(show ObjOk X.prog X.w H s.heap p (.tup vs) from I.hok p _ hp)
 obtain ⟨oc,od,dt,sl⟩:=o
 cases h2
 cases h3
 have e:its=vs.map clsU:=Y4 hv rv
 rw [<- e] at hk
 exact PySem.W.kia_tup (Vaz ec) I.kIn hx h1 hk (fun z=>nomatch z) fun tk=>⟨.bl b,H,I.tok tk,rfl,q⟩
theorem Ybs {K:PySem.W.Frag} {H:Hp} {θ:List Addr} {μ:Mem} {n:Nat} {x:V} {c:String} {ks:List String} {ds:List D} (wk:WOk K H θ μ) (r:Rp K H θ μ (.loc n) x) (hn:μ[n]? = some (.exc c ks ds)) :
  ∃ a C,x = .ref a/\PySem.W.nsIn K mainGlobals (Str.ofString c)=some (some (.ref C))/\(∃ o u,H a=some (.frz o u)/\o.cls = .ref C):=by
 obtain ⟨a,rfl,h1⟩:=Ye r
 obtain ⟨C,o,u,h2,h3,h4,_⟩:=(show CellOk K H θ μ a (.exc c ks ds) from wk.cell n _ a hn h1)
 exact ⟨a,C,rfl,h2,o,u,h3,h4⟩
theorem lookup_mem {α:Type}:∀ {l:List (String×α)} {x:String} {y:α},l.lookup x=some y->(x,y)∈l
 | [],_,_,h=>by simp at h
 | (a,b) :: l,x,y,h=>by
  rw [List.lookup_cons] at h
  split at h
  ·rename_i e
   cases h
   rw [eq_of_beq e]; exact List.mem_cons_self
  ·exact List.mem_cons_of_mem _ (lookup_mem h)
theorem pe_isxD {c:Ctx} {a cl:Expr} {wa:WE} {tt:Bool} {ts:List String} {tab:List (String×Bool)} {y:Str} {p pos:Pos} (hgl:∀ x,c.glb x=true->Gl X x) (R:Yk X (.isx tt ts tab) spN) (ha:PE X a (LE X.K wa)) (ey:y=Str.ofString "isinstance") (g1:Gl X y) (m1:X.mg y=none)
  (hcl:mCl c tt ts cl=true) (hs:starEach [a,cl] X.env=(false,eval a X.env) :: starEach [cl] X.env) :
  PE X (.Call (.Name y p) [a,cl] [] pos) (LE X.K fun ρ μ Q=>wa ρ μ fun d μ1=>wIsx tab d μ1 Q):=by
 subst ey
 obtain ⟨vs,hv,htab⟩:=(show IsxAt X.K X.mg tt ts tab from R)
 have key:∀ (d:D) (μ:Mem) (Qd:QD),wIsx tab d μ Qd->∃ n cn ks ds b,d = .loc n/\μ[n]? = some (.exc cn ks ds)/\(cn,b)∈tab/\Qd (.bl b) μ:=fun d μ Qd h=>by
  unfold wIsx at h
  split at h
  ·rename_i n
   split at h
   ·rename_i cn ks ds hn
    split at h
    ·rename_i b hb
     exact ⟨n,cn,ks,ds,b,rfl,hn,lookup_mem hb,h⟩
    ·exact h.elim
   ·exact h.elim
  ·exact h.elim
 cases tt with
 | false =>
  have hcl:mNs c ts [cl]=true:=hcl
  have pa:=Wv hgl hcl hv
  match ts,vs,hv,htab,hcl,pa with
  | [t],[v],hv,htab,hcl,pa =>
   have hpe:PE X cl (tC v):=by
    cases cl with
    | Name z q =>
     simp only [mNs,Bool.and_eq_true,Bool.not_eq_true',beq_iff_eq] at hcl
     obtain ⟨⟨⟨rfl,k3⟩,k4⟩,_⟩:=hcl
     rcases hv.1 with ⟨C,rfl,hm⟩ | ⟨rfl,hm,hb,hne⟩
     ·exact Xbi (hgl _ k3) hm rfl (Zd k4).1
     ·exact Wap (hgl _ k3) hm hb rfl hne (Zd k4).1
    | _=>exact (Bool.false_ne_true hcl).elim
   have hst:starEach [cl] X.env=(false,eval cl X.env) :: starEach [] X.env:=by
    cases cl with
    | Name z q=>rfl
    | _=>exact (Bool.false_ne_true hcl).elim
   refine PE.wk (Wi (x:=Str.ofString "isinstance") Wbv g1 m1 Zr (Zg ha (Zg hpe Vr hst) hs) (by decide +kernel) (by decide +kernel) hs (by rw [hst]; rfl)) fun σ H Q h=>?_
   obtain ⟨ρ,θ,μ,Qd,s,h,f⟩:=h
   refine ⟨ρ,θ,μ,_,s,h,fun d v' H1 θ1 μ1 w1 g1 r1 h1=>?_⟩
   obtain ⟨n,cn,ks,ds,b,rfl,hn,hb,hq⟩:=key d μ1 Qd h1
   obtain ⟨a',C,rfl,k1,k2⟩:=Ybs w1 r1 hn
   obtain ⟨C',k3,k4,k5⟩:=htab _ hb
   rw [k1] at k3; cases k3
   rw [if_neg Bool.false_ne_true] at k5
   obtain ⟨v2,e2,k6⟩:=k5
   cases e2
   exact ⟨a',C,b,t,v,rfl,hv,k2,k4,k6,f _ _ H1 θ1 μ1 w1 g1 Vl hq⟩
  | [],_,_,_,hcl,_=>simp [mNs] at hcl
  | _ :: _ :: _,_,_,_,hcl,_=>simp [mNs] at hcl
  | [_],[],hv,_,_,_=>exact hv.elim
  | [_],_ :: _ :: _,hv,_,_,_=>exact hv.2.elim
 | true =>
  cases cl with
  | Tuple es k tp =>
   have hcl':mNs c ts es=true/\es.length<=16777216:=by
    simp only [mCl,Bool.and_eq_true,decide_eq_true_eq] at hcl
    exact hcl
   have pa:=Wv hgl hcl'.1 hv
   have hlen:∀ {ts:List String} {es:List Expr} {vs:List V},mNs c ts es=true->Vo X.mg ts vs->vs.length=es.length:=by
    intro ts
    induction ts with
    | nil =>
     intro es vs h1 h2
     cases es with
     | nil=>cases vs with | nil=>rfl | cons _ _=>exact h2.elim
     | cons _ _=>simp [mNs] at h1
    | cons t ts ih =>
     intro es vs h1 h2
     cases es with
     | nil=>simp [mNs] at h1
     | cons e es =>
      cases vs with
      | nil=>exact h2.elim
      | cons v vs =>
       simp only [mNs,Bool.and_eq_true] at h1
       simp [ih h1.2 h2.2]
   have hl:=hlen hcl'.1 hv
   refine PE.wk (Wi (x:=Str.ofString "isinstance") Xbv g1 m1 Zr (Zg ha (Zg (pe_tup pa) Vr rfl) hs) (by decide +kernel) (by decide +kernel) hs rfl) fun σ H Q h=>?_
   obtain ⟨ρ,θ,μ,Qd,s,h,f⟩:=h
   refine ⟨ρ,θ,μ,_,s,h,fun d v' H1 θ1 μ1 w1 g1 r1 h1=>?_⟩
   refine ⟨by rw [hl,sizeLine_eq]; exact hcl'.2,fun q hq=>?_⟩
   obtain ⟨n,cn,ks,ds,b,rfl,hn,hb,hq2⟩:=key d μ1 Qd h1
   obtain ⟨a',C,rfl,k1,k2⟩:=Ybs w1 r1 hn
   obtain ⟨C',k3,k4,k5⟩:=htab _ hb
   rw [k1] at k3; cases k3
   rw [if_pos rfl] at k5
   have e1:=Wh (o:=HO.tup vs) hq
   exact ⟨a',q,C,b,ts,vs,rfl,Yc,hv,(let ⟨o,u,k6,k7⟩:=k2; ⟨o,u,e1 _ _ k6,k7⟩),k4,k5,f _ _ _ θ1 μ1 (w1.ext e1) (g1.trans (Grow.ext e1)) Vl hq2⟩
  | _=>exact (Bool.false_ne_true hcl).elim
end
section
variable {X:Cx} {EX:L2.St->XK}
noncomputable def LX (K:PySem.W.Frag) (EX:L2.St->XK) (w:(Rho->QX)->WE):TE:=fun σ H Q=>∃ ρ θ μ Qd Xd,Sim K σ H ρ θ μ/\w Xd ρ μ Qd/\Fin K H θ μ Qd Q/\∀ (H':Hp) (θ':List Addr) (μ':Mem) (c:String) (ks:List String) (ds:List D),WOk K H' θ' μ'->Grow H θ μ H' θ' μ'->Xd ρ c ks ds μ'->XLand K (EX σ) H' θ' μ' c ks ds
theorem Wbi {x:Str} {sp:DSpX} {ws:WA} {p pos:Pos} {e:Expr} {es:List Expr} (M:Meets X EX) (R:Yk X (.fnX x sp) spN) (hg:Gl X x) (ha:PA X (e :: es) (LA X.K ws)) (hdb:(x == ("__debug__" : Str))=false) (hs:starEach (e :: es) X.env=(false,eval e X.env) :: starEach es X.env)
  (hpl:(backTo pos (starEach es X.env)).any (·.1)=false):PE X (.Call (.Name x p) (e :: es) [] pos) (LX X.K EX fun Xd ρ μ Q=>ws ρ μ fun ds μ1=>sp ds μ1 Q (Xd ρ)):=by
 obtain ⟨fa,fd,ps,k,hm,hk,hb,F,hr⟩:=R
 refine PE.wk (Wb7 F hr hg hm hk hb M ha hdb hs hpl) fun σ H Q h=>?_
 obtain ⟨ρ,θ,μ,Qd,Xd,s,h,f,fx⟩:=h
 exact ⟨ρ,θ,μ,_,s,h,fun ds vs H1 θ1 μ1 w1 g1 r1 h1=>⟨ds,θ1,μ1,Qd,Xd ρ,w1,r1,h1,f.mono g1,fun H' θ' μ' c ks es w' g' z=>fx H' θ' μ' c ks es w' (g1.trans g') z⟩⟩
theorem le_din {a:Addr} {wi:WE} {σ:L2.St} {H:Hp} {Q:VK} (h:LE X.K (fun ρ μ Q=>wi ρ μ fun d μ1=>wInK ((W5 X.K a).map fun p=>p.1.cps.toList) d μ1 Q) σ H Q):tKey (LE X.K wi) (fun t H Q=>Q (.bl (KTD.inKeys t (W5 X.K a))) H) σ H Q:=by
 obtain ⟨ρ,θ,μ,Qd,s,h,f⟩:=h
 refine ⟨ρ,θ,μ,_,s,h,fun d v H1 θ1 μ1 w1 g1 r1 h1=>?_⟩
 unfold wInK at h1
 split at h1
 ·rename_i t
  obtain ⟨rfl,_⟩:=Vc r1
  refine ⟨_,rfl,?_⟩
  show Q (V.bl (KTD.inKeys _ (W5 X.K a))) H1
  rw [X8]
  exact f.mono g1 _ _ _ _ _ w1 Grow.refl Vl h1
 ·exact h1.elim
theorem Xa6 {x:Str} {sp:DSpX} {p pos:Pos} (M:Meets X EX) (R:Yk X (.fnX x sp) spN) (hg:Gl X x) (hdb:(x == ("__debug__" : Str))=false):PE X (.Call (.Name x p) [] [] pos) (LX X.K EX fun Xd ρ μ Q=>sp [] μ Q (Xd ρ)):=by
 obtain ⟨fa,fd,ps,k,hm,hk,hb,F,hr⟩:=R
 refine PE.wk (Vbi F hr hg hm hk hb M hdb) fun σ H Q h=>?_
 obtain ⟨ρ,θ,μ,Qd,Xd,s,h,f,fx⟩:=h
 exact ⟨[],θ,μ,Qd,Xd ρ,s.wok,Reps.nil,h,f,fx⟩
theorem Wbg {E:XK} {c:String} {ws:WA} {np cpos pos:Pos} {args:List Expr} (L:Leaves X E) (hc:X.calm=true) (hg:Gl X (Str.ofString c)) (R:Yk X (.rse c) spN) (ha:PA X args (LA X.K ws))
  (hpl:(backTo cpos (starEach args X.env)).any (·.1)=false) (hd:(Str.ofString c == ("__debug__" : Str))=false) (hst:args=[]∨∃ e es,args=e :: es/\starEach (e :: es) X.env=(false,eval e X.env) :: starEach es X.env) :
  PS X (.Raise (some (.Call (.Name (Str.ofString c) np) args [] cpos)) none pos) (LS X.K (fun _=>E) fun Z ρ μ=>ws ρ μ fun ds μ1=>ds.length<=lim/\Z.xc ρ c [] [] μ1):=by
 obtain ⟨C,h1,h2,h3⟩:=(show RseAt X.K X.mg c from R)
 refine PS.wk (Vb4 PySem.F.excBase_ValueError L hc hg h2 h3 ha hpl hd hst) fun D σ H h=>?_
 obtain ⟨ρ,θ,μ,Z,s,h,f⟩:=h
 refine ⟨ρ,θ,μ,_,s,h,fun ds vs H1 θ1 μ1 w1 g1 r1 q=>?_⟩
 refine ⟨by rw [<- r1.length,<- Ys]; exact q.1,?_⟩
 obtain ⟨C',k1,k2⟩:=f.xc σ H1 ρ θ1 μ1 c [] [] (s.grow w1 g1) g1 q.2
 rw [h1] at k1; cases k1
 exact k2 none (.inl ⟨rfl,rfl⟩)
end
end DW
end
section
set_option maxHeartbeats 2000000
namespace DW
open PySem PySem.Spec PyProof.Rows L2
section
variable {X:Cx} {EX:L2.St->XK}
end
end DW
end
section
set_option maxHeartbeats 2000000
namespace DW
open PySem PySem.Spec PyProof.Rows L2
variable {X:Cx}
end DW
end
section
set_option maxHeartbeats 2000000
namespace DW
open PySem PySem.Spec PyProof.Rows L2
section
variable {prog:Program} {w:World} {A:Around} {E:Value->Shared->Prop} {s:Shared}
set_option maxHeartbeats 3200000 in
theorem Xak {l:Addr} {items:Array Value} {ns:List Int} {Q:Value->Shared->Prop}
  (hh:A.handled=none) (hl:s.heap.IsTuple l items) (hi:IntsAre items.toList ns) (hb:items.size + 1 < scanBound)
  (h:∀ (h':Heap) (tk:Nat),h'.SetOf (intKind prog w) s.heap.objs.size (fun k'=>(firstMet (fun i=>ns.getD i 0) items.size).any (· == k')) (firstMet (fun i=>ns.getD i 0) items.size).length ->
   (∀ b o,b < s.heap.objs.size->s.heap.get? b=some o->h'.get? b=some o)->Q (.ref s.heap.objs.size) { s with heap:=h',toks:=tk }) :
  wpAny (model prog w) A (call (.type "set") [.ref l]) Q E s:=by
 obtain ⟨c,tl,hmro⟩:=PySem.F.called_set.mro
 have hmade:=PySem.F.called_set.made
 have hsub:=PySem.F.called_set.sub
 refine wpAny_call (codeAny_of_tree ?_)
 show wpAny _ _ (callAny (.type "set") _) _ _ _
 refine wpAny_pure ⟨Code.quiet_builtin _ (by decide +kernel),codeAny_builtin PySem.F.entry_type_call ?_⟩
 rw [Around.under_plain (weight_type_call_type "set" [.ref l] []) rfl]
 have h1:=PySem.F.called_set.notType
 have h2:=PySem.F.called_set.canCreate
 have hct:=PySem.F.typeCall_set_1 (.ref l)
 repeat (any_goals (first | assumption | wp_step))
 refine codeAny_mono (code_set_new_1 (.ref l) (E:=E) (Q₁:=fun obj s1=>∃ led:Bool,obj = .ref s.heap.objs.size/\s1={ s with heap:=s.heap.push { cls:=.type "set",dict:=none,data:=.set #[] 0 (.fresh 0 0 led) } }) fun led=>⟨led,rfl,rfl⟩) fun r s1 hr=>?_
 cases r with
 | error e=>exact hr
 | ok fl =>
  cases fl with
  | ret obj =>
   obtain ⟨led,rfl,rfl⟩:=hr
   have hS:(s.heap.push { cls:=.type "set",dict:=none,data:=.set #[] 0 (.fresh 0 0 led) }).get? s.heap.objs.size=some { cls:=.type "set",dict:=none,data:=.set #[] 0 (.fresh 0 0 led) }:=Heap.get?_push_size _ rfl
   have hT:Shared.TypeIs { s with heap:=s.heap.push { cls:=.type "set",dict:=none,data:=.set #[] 0 (.fresh 0 0 led) } } (.ref s.heap.objs.size) "set":=⟨_,hS,rfl⟩
   have hli:=PySem.F.called_set.init.lookup
   have hbi:=PySem.F.called_set.init.bind (.ref s.heap.objs.size)
   repeat (any_goals (first | assumption | wp_step))
   refine codeAny_mono (codeAny_call_builtin (R:=wants (fun r s2=>r = .none/\∃ h' tk,s2={ s with heap:=h',toks:=tk } /\
     h'.SetOf (intKind prog w) s.heap.objs.size (fun k'=>(firstMet (fun i=>ns.getD i 0) items.size).any (· == k')) (firstMet (fun i=>ns.getD i 0) items.size).length /\
     (∀ b o,b < s.heap.objs.size->s.heap.get? b=some o->h'.get? b=some o)) E) PySem.F.called_set.init.plain PySem.F.entry_set_init (check_set_init_1 hT ?_)) fun r2 s2 hr2=>?_
   ·obtain ⟨ol,hol,hcl,nl,hdl⟩:=hl
    obtain ⟨ocls,odict,odata,oslots⟩:=ol
    simp only at hcl hdl
    subst hcl; subst hdl
    have hol':(s.heap.push { cls:=.type "set",dict:=none,data:=.set #[] 0 (.fresh 0 0 led) }).get? l=some { cls:=.type "tuple",dict:=odict,data:=.seq items nl,slots:=oslots }:=Heap.get?_push_of_some _ hol
    have hsls:=PySem.F.sub_tuple_set
    have hslf:=PySem.F.sub_tuple_frozenset
    have hne:(Value.type "tuple" == Value.type "dict")=false:=by decide
    have hl1:(s.heap.push { cls:=.type "set",dict:=none,data:=.set #[] 0 (.fresh 0 0 led) }).IsTuple l items:=⟨_,hol',rfl,nl,rfl⟩
    unfold Builtin.«set.__init__» noKeywords Builtin.Frozenset.updateFrom
    generalize hPI:pyIter=PI
    wp_walk
    subst hPI
    refine wpAny_pyIter_tuple hl1 ?_
    refine wpAny_bind (wpAny_runValue ?_)
    have hlS:l < s.heap.objs.size:=Heap.lt_size hol
    have hh3:A.in1.in1.in1.handled=none:=by simp [hh]
    have hneI:l≠(s.heap.push { cls:=.type "set",dict:=none,data:=.set #[] 0 (.fresh 0 0 led) }).objs.size:=by
     rw [Heap.size_push]; exact Nat.ne_of_lt (Nat.lt_succ_of_lt hlS)
    have hSf:s.heap.objs.size ∉ [(s.heap.push { cls:=.type "set",dict:=none,data:=.set #[] 0 (.fresh 0 0 led) }).objs.size,l]:=by
     rw [Heap.size_push]; simp only [List.mem_cons,List.mem_singleton,List.not_mem_nil,or_false,not_or]
     exact ⟨Nat.ne_of_lt (Nat.lt_succ_self _),Nat.ne_of_gt hlS⟩
    have hval:∀ (i:Nat) (v:Value),items[i]? = some v->∃ t,v = .int ((fun i=>ns.getD i 0) i) t:=fun i v hv =>
     IntsAre.int_at hi i v (by rw [Array.getElem?_toList]; exact hv)
    refine codeAny_set_update_loopS ((Walks.tuple hh3 _ l hneI items).toS) s.heap.objs.size
     hSf (fun i=>ns.getD i 0) hval hb (items.size - 0) 0 _ (by omega) (Nat.zero_le _)
     ⟨⟨_,Heap.get?_push_size _ rfl,rfl,rfl⟩,⟨_,Heap.get?_push_of_some _ hol',rfl,nl,rfl⟩⟩ ?hS0 ?hR
    case hS0 =>
     have hget:((s.heap.push { cls:=.type "set",dict:=none,data:=.set #[] 0 (.fresh 0 0 led) }).push { cls:=.type "tuple_iterator",data:=.fields #[.ref l,.int 0 0] }).get? s.heap.objs.size
       = some { cls:=.type "set",dict:=none,data:=.set #[] 0 (.fresh 0 0 led) }:=Heap.get?_push_of_some _ hS
     exact SetOf_congr ((setObjOf_fresh (knd:=intKind prog w) led).setOf hget (by unfold scanBound; omega)) (fun _=>rfl) rfl
    case hR =>
     intro s' hm hS'
     obtain ⟨h',g',d',tk',os'⟩:=s'
     have eg:g'=s.gens:=hm.gens
     have ed:d'=s.drawn:=hm.drawn
     have eo:os'=s.os:=hm.os
     subst eg; subst ed; subst eo
     show wpAny _ _ _ _ _ _
     refine wpAny_pure ?_
     show wpAny _ _ (ret Value.none) _ _ _
     refine wpAny_pure ⟨rfl,h',tk',rfl,hS',fun b o hb e=>?_⟩
     have hb1:b≠s.heap.objs.size:=Nat.ne_of_lt hb
     have hb2:b≠(s.heap.push { cls:=.type "set",dict:=none,data:=.set #[] 0 (.fresh 0 0 led) }).objs.size:=by
      rw [Heap.size_push]; exact Nat.ne_of_lt (Nat.lt_succ_of_lt hb)
     exact hm.heap b o (by simp only [List.mem_cons,List.mem_singleton,List.not_mem_nil,or_false,not_or]; exact ⟨hb1,hb2⟩) (Heap.get?_push_of_some _ (Heap.get?_push_of_some _ e))
   ·cases r2 with
    | error e=>exact hr2
    | ok fl2 =>
     cases fl2 with
     | ret r =>
      obtain ⟨rfl,h',tk,rfl,hS',hk'⟩:=hr2
      repeat (any_goals (first | assumption | wp_step))
      exact h _ _ hS' hk'
     | _=>exact hr2.elim
  | _=>exact hr.elim
end
section
variable {X:Cx}
theorem Vs (ns:List Int):(firstMet (fun i=>ns.getD i 0) ns.length).length=Xas ns:=by
 have e:(List.range ns.length).map (fun i=>ns.getD i 0)=ns:=by
  apply List.ext_getElem?
  intro i
  by_cases c:i < ns.length
  ·simp [c]
  ·simp [c,Nat.le_of_not_lt c]
 unfold firstMet Xas
 rw [e]
 rfl
theorem Zat (hc:X.calm=true):CallR X (.type "set") (fun xs H Q=>∃ p ns,xs=[.ref p]/\(SqL X.K H p (ns.map V.int)∨SqT X.K H p (ns.map V.int))/\ns.length < 1000/\∀ q S,H q=none->Q (.ref q) (upd H q (.set S (Xas ns)))):=by
 intro pins s σ H xs us Q I r h
 obtain ⟨p,ns,rfl,hs,hl,q⟩:=h
 obtain ⟨u,rfl,rx⟩:=vals1 r
 cases rx
 have hh:=I.ok.hd hc
 have sb:ns.length + 1 < scanBound:=by unfold scanBound; omega
 rcases hs with hs | hs
 ·obtain ⟨its,vi,pl,hz⟩:=I.list hs
  have hi:=DW.vals_ints vi
  have el:its.length=ns.length:=hi.length
  refine call_set_list (items:=its.toArray) (ns:=ns) hh pl.isList (by simpa using hi) (by simp only [List.size_toArray]; omega) fun h' tk hS hk=>?_
  simp only [List.size_toArray,el,Vs] at hS
  exact ⟨.ref s.heap.objs.size,_,I.laid (t':=tk) (fun b u e=>hk b u (Heap.lt_size e) e) (Nat.le_refl _) (show ObjOk X.prog X.w _ h' _ (.set (fun k'=>(firstMet (fun i=>ns.getD i 0) ns.length).any fun x=>x == k') (Xas ns)) from hS),rfl,q _ _ (I.hok.fresh (Nat.le_refl _))⟩
 ·obtain ⟨its,vi,pl,hz⟩:=I.tuple hs
  have hi:=DW.vals_ints vi
  have el:its.length=ns.length:=hi.length
  refine Xak (items:=its.toArray) (ns:=ns) hh pl (by simpa using hi) (by simp only [List.size_toArray]; omega) fun h' tk hS hk=>?_
  simp only [List.size_toArray,el,Vs] at hS
  exact ⟨.ref s.heap.objs.size,_,I.laid (t':=tk) (fun b u e=>hk b u (Heap.lt_size e) e) (Nat.le_refl _) (show ObjOk X.prog X.w _ h' _ (.set (fun k'=>(firstMet (fun i=>ns.getD i 0) ns.length).any fun x=>x == k') (Xas ns)) from hS),rfl,q _ _ (I.hok.fresh (Nat.le_refl _))⟩
theorem Zae:CallR X (.builtin "len") (fun xs H Q=>∃ p S n,xs=[.ref p]/\H p=some (.set S n)/\Q (.int n) H):=by
 intro pins s σ H xs us Q I r h
 obtain ⟨p,S,n,rfl,hp,q⟩:=h
 obtain ⟨u,rfl,rx⟩:=vals1 r
 cases rx
 obtain ⟨o,es,ep,t,ho,hex,hd,_,_,hb,hf,rfl⟩:=(show ObjOk X.prog X.w H s.heap p (.set S n) from I.hok p _ hp)
 exact call_len_set ho hex hd hf (by unfold scanBound at hb; omega) ⟨.int _,H,I.tok _,⟨_,rfl⟩,q⟩
theorem boot_set:bootBuiltins (Str.ofString "set")=some (.type "set"):=by decide +kernel
theorem Zbw:bootBuiltins (Str.ofString "len")=some (.builtin "len"):=by decide +kernel
theorem seqI_sq {K:PySem.W.Frag} {H:Hp} {θ:List Addr} {μ:Mem} {d:D} {x:V} {ds:List D} {ns:List Int} (wk:WOk K H θ μ) (r:Rp K H θ μ d x) (h:Wb μ d=some ds) (hn:Vq ds=some ns):∃ p,x = .ref p/\(SqL K H p (ns.map V.int)∨SqT K H p (ns.map V.int)):=by
 cases d with
 | tup es =>
  cases h
  obtain ⟨a,xs,rfl,h1,_,rs⟩:=Zf r
  cases Yw rs hn
  exact ⟨a,rfl,.inr (SqT.of h1)⟩
 | lst es =>
  obtain ⟨a,ys,rfl,hx,rs⟩:=Xp wk r (show Zv μ (.lst es)=some ds from h)
  cases Yw rs hn
  exact ⟨a,rfl,.inl hx⟩
 | ro es =>
  obtain ⟨a,ys,rfl,hx,rs⟩:=Xp wk r (show Zv μ (.ro es)=some ds from h)
  cases Yw rs hn
  exact ⟨a,rfl,.inl hx⟩
 | loc n =>
  obtain ⟨a,ys,rfl,hx,rs⟩:=Xp wk r (show Zv μ (.loc n)=some ds from h)
  cases Yw rs hn
  exact ⟨a,rfl,.inl hx⟩
 | _=>cases h
theorem Zb7 {a:Expr} {wa:WE} {y z:Str} {p p2 pos pos2:Pos} (hc:X.calm=true) (ha:PE X a (LE X.K wa)) (ey:y=Str.ofString "len") (ez:z=Str.ofString "set") (g1:Gl X y) (g2:Gl X z) (m1:X.mg y=none) (m2:X.mg z=none)
  (hs:starEach [a] X.env=(false,eval a X.env) :: starEach [] X.env) :
  PE X (.Call (.Name y p) [.Call (.Name z p2) [a] [] pos2] [] pos) (LE X.K fun ρ μ Q=>wa ρ μ fun d μ1=>wLset d μ1 Q):=by
 subst ey ez
 have hset:=Yl (x:=Str.ofString "set") (p:=p2) (pos:=pos2) (Zat hc) g2 m2 boot_set (Zg ha Vr hs) (by decide +kernel) (by decide +kernel) hs rfl
 refine PE.wk (Wi (x:=Str.ofString "len") Zae g1 m1 Zbw (Zg hset Vr rfl) (by decide +kernel) (by decide +kernel) rfl rfl) fun σ H Q h=>?_
 obtain ⟨ρ,θ,μ,Qd,s,h,f⟩:=h
 refine ⟨ρ,θ,μ,_,s,h,fun d v H1 θ1 μ1 w1 g1 r1 h1=>?_⟩
 unfold wLset at h1
 split at h1
 ·rename_i ns e
  obtain ⟨hl,h1⟩:=h1
  cases q:Wb μ1 d with
  | none=>rw [q] at e; cases e
  | some ds =>
   rw [q] at e
   obtain ⟨a',rfl,hsq⟩:=seqI_sq w1 r1 q e
   refine ⟨a',ns,rfl,hsq,hl,fun b S hb=>?_⟩
   have e1:=Wh (o:=HO.set S (Xas ns)) hb
   exact ⟨b,S,_,rfl,Yc,f _ _ _ θ1 μ1 (w1.ext e1) (g1.trans (Grow.ext e1)) Yd h1⟩
 ·exact h1.elim
end
end DW
end
section
set_option maxHeartbeats 4000000
namespace DW
open PySem PySem.W PySem.Calls PyProof.Rows
noncomputable def subN (m:Nat):List Nat:=(List.range 7).filter fun i=>m.testBit i
noncomputable def stb (L:Bool) (sub:List Nat):SetTable:={ mask:=if sub.length < 5 then 7 else 31,place:=sub.toArray,dummies:=#[],finger:=0,led:=L,moves:=if sub.length < 5 then 0 else 1,plain:=true }
noncomputable def posN (sub:List Nat) (x:Nat):Nat:=(sub.filter (· < x)).length
noncomputable def addOk (L:Bool) (m x:Nat):Bool :=
 let sub:=subN m; let p:=posN sub x
 m.testBit x || (decide ((stb L sub).freeSlot (x:Int)=some (x,false)) && decide (SetTable.below sub.toArray x=p) && decide (sub.take p ++ x :: sub.drop p=subN (m ||| (1 <<< x))))
theorem add_all:(List.range 128).all (fun m=>(List.range 7).all fun x=>addOk true m x && addOk false m x)=true:=by decide +kernel
noncomputable def layOk (L:Bool) (m:Nat):Bool :=
 let sub:=subN m
 decide (sub.length≠5) || decide (({ stb L sub with mask:=7,moves:=0 }:SetTable).relaid (sub.map fun (k:Nat)=>(k:Int)).toArray (SetTable.grown 5)=some (stb L sub,#[0,1,2,3,4]))
theorem lay_all:(List.range 128).all (fun m=>layOk true m && layOk false m)=true:=by decide +kernel
noncomputable def esN (V:Nat->Value) (sub:List Nat):Array (Int×Value):=(sub.map fun (k:Nat)=>((k:Int),V k)).toArray
theorem Vd (V:Nat->Value) (sub:List Nat):(esN V sub).size=sub.length:=by simp [esN]
theorem sub_le (m:Nat):(subN m).length<=7:=by
 have:=List.length_filter_le (fun i=>m.testBit i) (List.range 7)
 simpa [subN] using this
theorem mem_subN {m x:Nat}:x∈subN m<->x < 7/\m.testBit x=true:=by simp [subN]
theorem sub_up (m:Nat):(subN m).Pairwise (· < ·):=List.Pairwise.filter _ List.pairwise_lt_range
theorem Wbx {L:Bool} {m x:Nat} (hm:m < 128) (hx:x < 7) (hn:m.testBit x=false) :
  (stb L (subN m)).freeSlot (x:Int)=some (x,false)/\SetTable.below (subN m).toArray x=posN (subN m) x/\(subN m).take (posN (subN m) x) ++ x :: (subN m).drop (posN (subN m) x)=subN (m ||| (1 <<< x)):=by
 have h:=List.all_eq_true.mp (List.all_eq_true.mp add_all m (List.mem_range.mpr hm)) x (List.mem_range.mpr hx)
 rw [Bool.and_eq_true] at h
 have h:addOk L m x=true:=by cases L; exact h.2; exact h.1
 simp only [addOk,hn,Bool.false_or,Bool.and_eq_true,decide_eq_true_eq] at h
 exact ⟨h.1.1,h.1.2,h.2⟩
theorem lay_one {L:Bool} {m:Nat} (hm:m < 128) (h5:(subN m).length=5) :
  ({ stb L (subN m) with mask:=7,moves:=0 }:SetTable).relaid ((subN m).map fun (k:Nat)=>(k:Int)).toArray (SetTable.grown 5)=some (stb L (subN m),#[0,1,2,3,4]):=by
 have h:=List.all_eq_true.mp lay_all m (List.mem_range.mpr hm)
 rw [Bool.and_eq_true] at h
 have h:layOk L m=true:=by cases L; exact h.2; exact h.1
 simpa [layOk,h5] using h
theorem lay_new {L:Bool} {m x:Nat} {V:Nat->Value} {v:Value} (hm:m < 128) (hx:x < 7) (hn:m.testBit x=false) :
  layNew (stb L (subN m)) (esN V (subN m)) (x:Int) v=(esN (fun k=>if k=x then v else V k) (subN (m ||| (1 <<< x))),{ stb L (subN m) with place:=(subN (m ||| (1 <<< x))).toArray },false,false):=by
 obtain ⟨h1,h2,h3⟩:=Wbx (L:=L) hm hx hn
 have hl:(subN (m ||| (1 <<< x))).length=(subN m).length + 1:=by
  rw [<- h3]
  have:posN (subN m) x<=(subN m).length:=List.length_filter_le _ _
  simp; omega
 have hnx:x ∉ subN m:=fun z=>by rw [mem_subN,hn] at z; exact absurd z.2 (by decide)
 have hp:SetTable.insertAt (stb L (subN m)).place (SetTable.below (stb L (subN m)).place x) x=(subN (m ||| (1 <<< x))).toArray:=by
  apply Array.ext'
  rw [SetTable.toList_insertAt]
  show (subN m).take (SetTable.below (subN m).toArray x) ++ x :: (subN m).drop (SetTable.below (subN m).toArray x)=_
  rw [h2,h3]
 have he:SetTable.insertAt (esN V (subN m)) (SetTable.below (stb L (subN m)).place x) ((x:Int),v)=esN (fun k=>if k=x then v else V k) (subN (m ||| (1 <<< x))):=by
  apply Array.ext'
  rw [SetTable.toList_insertAt]
  show (((subN m).map fun (k:Nat)=>((k:Int),V k)).take (SetTable.below (subN m).toArray x)) ++ _ :: (((subN m).map fun (k:Nat)=>((k:Int),V k)).drop (SetTable.below (subN m).toArray x))=(subN (m ||| (1 <<< x))).map _
  rw [h2,<- h3,List.map_append,List.map_cons,<- List.map_take,<- List.map_drop]
  have hc:∀ l:List Nat,(∀ k∈l,k∈subN m)->l.map (fun (k:Nat)=>((k:Int),V k))=l.map (fun (k:Nat)=>((k:Int),if k=x then v else V k)):=fun l hl=>List.map_congr_left fun k hk=>by
   have:k≠x:=fun e=>hnx (by rw [<- e]; exact hl k hk)
   rw [if_neg this]
  rw [hc _ fun k hk=>List.mem_of_mem_take hk,hc _ fun k hk=>List.mem_of_mem_drop hk]
  simp
 have hf:({ stb L (subN m) with place:=(subN (m ||| (1 <<< x))).toArray }:SetTable).fits (esN (fun k=>if k=x then v else V k) (subN (m ||| (1 <<< x)))).size=true:=by
  have h7:=sub_le (m ||| (1 <<< x))
  simp only [SetTable.fits,SetTable.fill,stb,Vd,List.size_toArray,beq_self_eq_true,Bool.true_and,decide_eq_true_eq,Array.size_empty]
  split <;> simp <;> omega
 unfold layNew
 rw [h1]
 simp only [SetTable.put]
 rw [hp,he]
 have hd:(if SetTable.has (stb L (subN m)).dummies x=true then SetTable.eraseAt (stb L (subN m)).dummies (SetTable.below (stb L (subN m)).dummies x) else (stb L (subN m)).dummies)=(stb L (subN m)).dummies:=by
  rw [if_neg]
  show ¬ (SetTable.has #[] x=true)
  simp [SetTable.has]
 rw [hd]
 unfold SetTable.orStandIn
 rw [if_pos hf,hf]
 rfl
theorem Xa5 {L:Bool} {m:Nat} {V:Nat->Value} (hm:m < 128) (h5:(subN m).length=5) :
  relayAll { stb L (subN m) with mask:=7,moves:=0 } (esN V (subN m)) (SetTable.grown (esN V (subN m)).size)=(esN V (subN m),stb L (subN m),false):=by
 have h:=lay_one (L:=L) hm h5
 have e1:(esN V (subN m)).map (·.1)=((subN m).map fun (k:Nat)=>(k:Int)).toArray:=by simp [esN]
 have e2:(esN V (subN m)).size=5:=by rw [Vd,h5]
 unfold relayAll
 rw [e1,e2,h]
 have e3:(#[0,1,2,3,4]:Array Nat).filterMap ((esN V (subN m))[·]?)=esN V (subN m):=by
  apply Array.ext'
  rw [Array.toList_filterMap]
  have:=filterMap_getElem?_range (esN V (subN m))
  rw [e2] at this
  exact this
 have e4:coversAll #[0,1,2,3,4] 5=true:=by decide +kernel
 have e5:(stb L (subN m)).fits 5=true:=by
  simp [SetTable.fits,SetTable.fill,stb,h5]
 simp only [e3,e4,e2,e5,Bool.and_self,if_true]
end DW
end
section
set_option maxHeartbeats 4000000
namespace DW
open PySem PySem.W PySem.Calls PyProof.Rows
noncomputable def TinySet (h:Heap) (a:Addr) (L:Bool) (m:Nat):Prop:=m < 128/\∃ (V:Nat->Value) (ep:Nat),(∀ k,∃ t,V k = .int (k:Int) t)/\h.get? a=some { cls:=.type "set",dict:=none,data:=.set (esN V (subN m)) ep (stb L (subN m)) }
section
variable {prog:Program} {w:World} {A:Around} {E:Value->Shared->Prop} {s:Shared} {a:Addr} {L:Bool} {m x:Nat}
theorem Wab (L:Bool) (m:Nat):(stb L (subN m)).fits (subN m).length=true:=by
 have h7:=sub_le m
 simp only [SetTable.fits,SetTable.fill,stb,List.size_toArray,beq_self_eq_true,Bool.true_and,decide_eq_true_eq]
 split <;> simp <;> omega
theorem W8 {x:Nat} (hx:x < 7):hashInt (x:Int)=(x:Int):=by
 have:∀ y < 7,hashInt ((y:Nat):Int)=(y:Int):=by decide +kernel
 exact this x hx
theorem Va8 {V:Nat->Value} (hV:∀ k,∃ t,V k = .int (k:Int) t) (m:Nat):ElemsOf (intKind prog w) (esN V (subN m)).toList:=by
 intro e he
 simp only [esN] at he
 obtain ⟨k,hk,rfl⟩:=List.mem_map.mp he
 obtain ⟨t,ht⟩:=hV k
 refine ⟨⟨(k:Int),by rw [ht]; exact intKind_is _ _ _ _,?_⟩,by rw [ht]; rfl⟩
 exact (W8 (mem_subN.mp hk).1).symm
theorem add_tiny {tk:Tok} {Q:Bool->Shared->Prop} (hx:x < 7) (hS:TinySet s.heap a L m)
  (h:∀ h',Heap.SameBut a s.heap h'->TinySet h' a L (m ||| (1 <<< x))->∀ b,Q b { s with heap:=h' }) :
  wpAny (model prog w) A (setAddHashed a (.int (x:Int) tk) (hashInt (x:Int))) Q E s:=by
 obtain ⟨hm,V,ep,hV,ho⟩:=hS
 have hf:(stb L (subN m)).fits (esN V (subN m)).size=true:=by rw [Vd]; exact Wab L m
 have hel:ElemsOf (intKind prog w) (esN V (subN m)).toList:=Va8 hV m
 have hb:(esN V (subN m)).size < scanBound:=by rw [Vd]; have:=sub_le m; unfold scanBound; omega
 have hm':m ||| (1 <<< x) < 128:=by
  have h2:(1 <<< x) < 2 ^ 7:=by rw [Nat.one_shiftLeft]; exact Nat.pow_lt_pow_right (by decide) hx
  exact Nat.or_lt_two_pow (n:=7) hm h2
 unfold setAddHashed setAddHashedIn
 refine wpAny_holding (wpAny_bind (wpAny_setState_of ho rfl hf ?_))
 dsimp only
 rw [byScan_of (knd:=intKind prog w) rfl hb hel]
 simp only [↓reduceIte]
 unfold setAddByScan
 refine wpAny_bind ?_
 refine wpAny_bind (wpAny_rule ?_)
 refine wpAny_bind (wpAny_setScan_of (knd:=intKind prog w) (k:=(x:Int)) (intKind_is _ _ _ _) ho rfl hf hel ?_)
 cases hr:List.findIdx? (fun e=>(intKind prog w).is (x:Int) e.2) (esN V (subN m)).toList with
 | some j =>
  dsimp only
  obtain ⟨hj,hpj,_⟩:=List.findIdx?_eq_some_iff_getElem.mp hr
  have hmem:=List.getElem_mem hj
  simp only [esN] at hmem
  obtain ⟨k,hk,he⟩:=List.mem_map.mp hmem
  obtain ⟨t,ht⟩:=hV k
  have hkx:k=x:=by
   have e1:(esN V (subN m)).toList[j]=((k:Int),V k):=he.symm
   rw [e1,ht] at hpj
   have:=(intKind prog w).inj _ _ _ hpj (intKind_is _ _ _ _)
   omega
  subst hkx
  have hbit:=(mem_subN.mp hk).2
  have hmm:m ||| (1 <<< k)=m:=by
   apply Nat.eq_of_testBit_eq
   intro i
   rw [Nat.testBit_or,Nat.one_shiftLeft,Nat.testBit_two_pow]
   by_cases e:k=i
   ·subst e; simp [hbit]
   ·simp [e]
  refine wpAny_pure (wpAny_pure ?_)
  have:=h s.heap (Heap.SameBut.refl a s.heap) (by rw [hmm]; exact ⟨hm,V,ep,hV,ho⟩) false
  exact this
 | none =>
  dsimp only
  have hn:m.testBit x=false:=by
   cases hk:m.testBit x with
   | false=>rfl
   | true =>
    have hmem:((x:Int),V x)∈(esN V (subN m)).toList:=by
     simp only [esN]
     exact List.mem_map.mpr ⟨x,mem_subN.mpr ⟨hx,hk⟩,rfl⟩
    have:=List.findIdx?_eq_none_iff.mp hr _ hmem
    obtain ⟨t,ht⟩:=hV x
    rw [ht] at this
    have h2:(intKind prog w).is (x:Int) (.int (x:Int) t)=true:=intKind_is _ _ _ _
    rw [h2] at this
    exact Bool.noConfusion this
  have e0:layNew (stb L (subN m)) (esN V (subN m)) ((intKind prog w).hash (x:Int)) (.int (x:Int) tk)=(esN (fun k=>if k=x then .int (x:Int) tk else V k) (subN (m ||| (1 <<< x))),{ stb L (subN m) with place:=(subN (m ||| (1 <<< x))).toArray },false,false):=by
   rw [show (intKind prog w).hash (x:Int)=(x:Int) from W8 hx]
   exact lay_new hm hx hn
  have e0':layNew (stb L (subN m)) (esN V (subN m)) (hashInt (x:Int)) (.int (x:Int) tk)=_:=e0
  rw [e0']
  generalize hV':(fun k=>if k=x then Value.int (x:Int) tk else V k)=V'
  have hVi:∀ k,∃ t,V' k = .int (k:Int) t:=fun k=>by
   rw [<- hV']
   by_cases e:k=x
   ·subst e; exact ⟨tk,if_pos rfl⟩
   ·obtain ⟨t,ht⟩:=hV k
    exact ⟨t,by simp only [if_neg e]; exact ht⟩
  clear e0 e0' hV'
  have hz:(esN V' (subN (m ||| (1 <<< x)))).size < scanBound:=by rw [Vd]; have:=sub_le (m ||| (1 <<< x)); unfold scanBound; omega
  have hl:(subN (m ||| (1 <<< x))).length=(subN m).length + 1:=by
   rw [<- (Wbx (L:=L) hm hx hn).2.2]
   have:posN (subN m) x<=(subN m).length:=List.length_filter_le _ _
   simp; omega
  generalize m ||| (1 <<< x)=m' at h hm' hz hl
  dsimp only
  refine wpAny_bind (wpAny_of_eq (a:=()) rfl ?_)
  rw [if_pos (show (stb L (subN m)).plain=true from rfl)]
  refine wpAny_bind ?_
  rw [hashByValue_scannable 8 rfl]
  refine wpAny_pure ?_
  have hpk:plainKind (Value.int (x:Int) tk)=true:=rfl
  simp only [hpk,if_true,Bool.not_false,Bool.true_and]
  have st:∀ {h1:Heap} {es1:Array (Int×Value)} {e1:Nat} {t1:SetTable} (es2:Array (Int×Value)) (t2:SetTable),h1.get? a=some { cls:=.type "set",dict:=none,data:=.set es1 e1 t1 }->(h1.update a (Obj.putSet es2 t2)).get? a=some { cls:=.type "set",dict:=none,data:=.set es2 (e1 + 1) t2 }:=by
   intro h1 es1 e1 t1 es2 t2 ho1
   have:=Heap.get?_update_self (Obj.putSet es2 t2) ho1 (by rw [putSet_of es2 t2 rfl]; rfl)
   rw [putSet_of es2 t2 rfl] at this; exact this
  by_cases c:(subN m).length=4
  ·have et:({ mask:=(stb L (subN m)).mask,place:=(subN m').toArray,dummies:=(stb L (subN m)).dummies,finger:=(stb L (subN m)).finger,led:=(stb L (subN m)).led,moves:=(stb L (subN m)).moves,plain:=(stb L (subN m)).plain }:SetTable)={ stb L (subN m') with mask:=7,moves:=0 }:=by simp [stb,c]
   have h5:(subN m').length=5:=by omega
   rw [et]
   have hfull:({ stb L (subN m') with mask:=7,moves:=0 }:SetTable).tooFull=true:=by simp [SetTable.tooFull,SetTable.fill,stb,h5]
   rw [hfull,Xa5 hm' h5]
   refine wpAny_bind (wpAny_storeSet_of ho rfl ?_ (fits_of_scanBound hz))
   rw [if_pos rfl]
   refine wpAny_bind (wpAny_of_eq (a:=()) rfl ?_)
   refine wpAny_bind (wpAny_storeSet_of (st _ _ ho) rfl ?_ (fits_of_scanBound hz))
   refine wpAny_pure ?_
   dsimp only
   refine wpAny_pure ?_
   exact h _ ((Heap.SameBut.update s.heap a _).trans (Heap.SameBut.update _ a _)) ⟨hm',V',_,hVi,st _ _ (st _ _ ho)⟩ true
  ·have h7:=sub_le m'
   have et:({ mask:=(stb L (subN m)).mask,place:=(subN m').toArray,dummies:=(stb L (subN m)).dummies,finger:=(stb L (subN m)).finger,led:=(stb L (subN m)).led,moves:=(stb L (subN m)).moves,plain:=(stb L (subN m)).plain }:SetTable)=stb L (subN m'):=by
    have:((subN m).length < 5)=((subN m').length < 5):=by apply propext; omega
    simp [stb,this]
   rw [et]
   have hfull:(stb L (subN m')).tooFull=false:=by
    simp only [SetTable.tooFull,SetTable.fill,stb,List.size_toArray,decide_eq_false_iff_not]
    split <;> simp <;> omega
   rw [hfull]
   refine wpAny_bind (wpAny_storeSet_of ho rfl ?_ (fits_of_scanBound hz))
   rw [if_neg (by decide)]
   refine wpAny_pure ?_
   dsimp only
   refine wpAny_pure ?_
   exact h _ (Heap.SameBut.update s.heap a _) ⟨hm',V',_,hVi,st _ _ ho⟩ true
end
noncomputable def W0:List Nat->Nat->Nat
 | [],m=>m
 | x :: l,m=>W0 l (m ||| (1 <<< x))
section
variable {prog:Program} {w:World} {A:Around} {R:Result->Shared->Prop} {I:Addr} {fp wr:List Addr} {G:Array GenState->Array GenState->Prop} {n:Nat} {P:Nat->Value->Prop} {St:Nat->Shared->Prop} {L:Bool}
theorem TinySet.at {h h':Heap} {a:Addr} {m:Nat} (hS:TinySet h a L m) (e:∀ o,h.get? a=some o->h'.get? a=some o):TinySet h' a L m:=by
 obtain ⟨hm,V,ep,hV,ho⟩:=hS
 exact ⟨hm,V,ep,hV,e _ ho⟩
theorem Xan (W:WalksS prog w A.in1 I fp wr G n P St) (S:Addr) (hSf:S ∉ fp) (ks:List Nat) (hks:ks.length=n) (h7:∀ k∈ks,k < 7)
  (hval:∀ i v,P i v->∃ t,v = .int ((ks.getD i 0:Nat):Int) t) :
  ∀ (k i:Nat) (s:Shared) (m:Nat),n - i=k->i<=n->St i s->TinySet s.heap S L m ->
   (∀ s',Moved (S :: wr) G s s'->TinySet s'.heap S L (W0 (ks.drop i) m)->R (.ok (.ret .none)) s') ->
   codeAny (model prog w) A (.builtin "set.update.loop" ⟨[.ref S,.ref I],[]⟩) R s:=by
 have hSw:S ∉ wr:=fun h=>hSf (W.sub _ h)
 have hsub:∀ b∈wr,b∈S :: wr:=fun b hb=>List.mem_cons_of_mem _ hb
 intro k
 induction k with
 | zero =>
  intro i s m hk hi hst hS hR
  have hin:i=n:=by omega
  subst hin
  refine codeAny_builtin PyProof.Rows.F.entry_set_update_loop ?_
  rw [Around.under_plainId PyProof.Rows.F.plain_set_update_loop _]
  show wpAny _ A.in1 (pyNext (.ref I) >>= _) _ _ s
  refine wpAny_bind (W.done s _ _ hst fun s' hm=>?_)
  show wpAny _ A.in1 (ret Value.none) _ _ s'
  rw [List.drop_of_length_le (by omega)] at hR
  exact wpAny_pure (hR s' (hm.mono hsub) (hS.at fun o e=>hm.heap S _ hSw e))
 | succ k ih =>
  intro i s m hk hi hst hS hR
  have hlt:i < n:=by omega
  refine codeAny_builtin PyProof.Rows.F.entry_set_update_loop ?_
  rw [Around.under_plainId PyProof.Rows.F.plain_set_update_loop _]
  show wpAny _ A.in1 (pyNext (.ref I) >>= _) _ _ s
  refine wpAny_bind (W.item i s _ _ hlt hst fun v s' hP hst' hm=>?_)
  obtain ⟨t,rfl⟩:=hval i v hP
  have hS':=hS.at (h':=s'.heap) fun o e=>hm.heap S _ hSw e
  have hi2:i < ks.length:=by omega
  have hd:ks.drop i=ks.getD i 0 :: ks.drop (i + 1):=by
   rw [List.drop_eq_getElem_cons hi2]
   simp [List.getD,List.getElem?_eq_getElem hi2]
  have hx:ks.getD i 0 < 7:=h7 _ (by simp [List.getD,List.getElem?_eq_getElem hi2])
  rw [hd] at hR
  generalize ks.getD i 0=x at hx hR
  show wpAny _ A.in1 (holding [Value.int (x:Int) t] (setAdd S (.int (x:Int) t)) >>= _) _ _ s'
  refine wpAny_bind (wpAny_holding ?_)
  unfold setAdd
  refine wpAny_holding ?_
  refine wpAny_bind ((intKind prog w).pyHash (k:=(x:Int)) (intKind_is _ _ _ _) ?_)
  refine add_tiny (s:={ s' with toks:=s'.toks + 1 }) hx hS' fun h' hsb hS2 b=>?_
  refine wpAny_pure ⟨plainId_quiet PyProof.Rows.F.plain_set_update_loop _,ih (i + 1) _ _ (by omega) hlt (W.frame _ s' _ _ hst' (Nat.le_succ _) fun b hb o e=>?_) hS2 fun s'' hm'' hS''=>?_⟩
  ·rw [hsb.2 b (fun h:b=S=>hSf (by rw [<- h]; exact hb))]; exact e
  ·refine hR s'' (Moved.trans W.gtrans ((hm.mono hsub).then_heap (Nat.le_succ _) fun b o hb e=>?_) hm'') hS''
   rw [hsb.2 b (fun h:b=S=>hb (by rw [h]; exact List.mem_cons_self))]; exact e
end
end DW
end
section
set_option maxHeartbeats 4000000
namespace DW
open PySem PySem.Spec PySem.W PySem.Calls PyProof.Rows
noncomputable def byT (w:World):Bool:=w.params.followText "set-order"
section
variable {prog:Program} {w:World} {A:Around} {E:Value->Shared->Prop} {s:Shared}
theorem Zao (a:Value) {Q₁:Value->Shared->Prop}
  (h:Q₁ (.ref s.heap.objs.size) { s with heap:=s.heap.push { cls:=.type "set",dict:=none,data:=.set #[] 0 (.fresh 0 0 (!byT w)) } }) :
  codeAny (model prog w) A (.call (.builtin "set.__new__") ⟨[.type "set",a],[]⟩) (wants Q₁ E) s:=by
 refine codeAny_of_tree ?_
 show wpAny _ A.in1 (do checkBuiltinCall "set.__new__" ⟨[.type "set",a],[]⟩; again (.builtin "set.__new__" ⟨[.type "set",a],[]⟩)) _ _ s
 refine wpAny_bind (wpAny_of_eq (PySem.F.newCall_set_1 a) (wpAny_pure ⟨plainId_quiet PySem.F.plain_set_new _,codeAny_builtin PySem.F.entry_set_new ?_⟩))
 rw [Around.under_plainId PySem.F.plain_set_new _]
 unfold Builtin.«set.__new__» Builtin.Frozenset.newClass
 have hsub:=sub_set_self
 obtain ⟨hp,g,d,tk,os⟩:=s
 dsimp only
 wp_walk
 refine wpAny_askSetting (wpAny_pure ?_)
 dsimp only
 simp only [newObj]
 refine wpAny_bind (wpAny_alloc (wpAny_pure ?_))
 exact wpAny_pure h
theorem Vad {l:Addr} {items:Array Value} {ks:List Nat} {Q:Value->Shared->Prop}
  (hh:A.handled=none) (hl:s.heap.IsTuple l items) (hi:IntsAre items.toList (ks.map fun (k:Nat)=>(k:Int))) (h7:∀ k∈ks,k < 7)
  (h:∀ (h':Heap) (tk:Nat),TinySet h' s.heap.objs.size (!byT w) (W0 ks 0) ->
   (∀ b o,b < s.heap.objs.size->s.heap.get? b=some o->h'.get? b=some o)->Q (.ref s.heap.objs.size) { s with heap:=h',toks:=tk }) :
  wpAny (model prog w) A (call (.type "set") [.ref l]) Q E s:=by
 obtain ⟨c,tl,hmro⟩:=PySem.F.called_set.mro
 have hmade:=PySem.F.called_set.made
 have hsub:=PySem.F.called_set.sub
 refine wpAny_call (codeAny_of_tree ?_)
 show wpAny _ _ (callAny (.type "set") _) _ _ _
 refine wpAny_pure ⟨Code.quiet_builtin _ (by decide +kernel),codeAny_builtin PySem.F.entry_type_call ?_⟩
 rw [Around.under_plain (weight_type_call_type "set" [.ref l] []) rfl]
 have h1:=PySem.F.called_set.notType
 have h2:=PySem.F.called_set.canCreate
 have hct:=PySem.F.typeCall_set_1 (.ref l)
 repeat (any_goals (first | assumption | wp_step))
 refine codeAny_mono (Zao (.ref l) (E:=E) (Q₁:=fun obj s1=>∃ led:Bool,led=(!byT w)/\obj = .ref s.heap.objs.size/\s1={ s with heap:=s.heap.push { cls:=.type "set",dict:=none,data:=.set #[] 0 (.fresh 0 0 led) } }) ⟨_,rfl,rfl,rfl⟩) fun r s1 hr=>?_
 cases r with
 | error e=>exact hr
 | ok fl =>
  cases fl with
  | ret obj =>
   obtain ⟨led,hled,rfl,rfl⟩:=hr
   have hS:(s.heap.push { cls:=.type "set",dict:=none,data:=.set #[] 0 (.fresh 0 0 led) }).get? s.heap.objs.size=some { cls:=.type "set",dict:=none,data:=.set #[] 0 (.fresh 0 0 led) }:=Heap.get?_push_size _ rfl
   have hT:Shared.TypeIs { s with heap:=s.heap.push { cls:=.type "set",dict:=none,data:=.set #[] 0 (.fresh 0 0 led) } } (.ref s.heap.objs.size) "set":=⟨_,hS,rfl⟩
   have hli:=PySem.F.called_set.init.lookup
   have hbi:=PySem.F.called_set.init.bind (.ref s.heap.objs.size)
   repeat (any_goals (first | assumption | wp_step))
   refine codeAny_mono (codeAny_call_builtin (R:=wants (fun r s2=>r = .none/\∃ h' tk,s2={ s with heap:=h',toks:=tk } /\
     TinySet h' s.heap.objs.size (!byT w) (W0 ks 0) /\
     (∀ b o,b < s.heap.objs.size->s.heap.get? b=some o->h'.get? b=some o)) E) PySem.F.called_set.init.plain PySem.F.entry_set_init (check_set_init_1 hT ?_)) fun r2 s2 hr2=>?_
   ·obtain ⟨ol,hol,hcl,nl,hdl⟩:=hl
    obtain ⟨ocls,odict,odata,oslots⟩:=ol
    simp only at hcl hdl
    subst hcl; subst hdl
    have hol':(s.heap.push { cls:=.type "set",dict:=none,data:=.set #[] 0 (.fresh 0 0 led) }).get? l=some { cls:=.type "tuple",dict:=odict,data:=.seq items nl,slots:=oslots }:=Heap.get?_push_of_some _ hol
    have hsls:=PySem.F.sub_tuple_set
    have hslf:=PySem.F.sub_tuple_frozenset
    have hne:(Value.type "tuple" == Value.type "dict")=false:=by decide
    have hl1:(s.heap.push { cls:=.type "set",dict:=none,data:=.set #[] 0 (.fresh 0 0 led) }).IsTuple l items:=⟨_,hol',rfl,nl,rfl⟩
    unfold Builtin.«set.__init__» noKeywords Builtin.Frozenset.updateFrom
    generalize hPI:pyIter=PI
    wp_walk
    subst hPI
    refine wpAny_pyIter_tuple hl1 ?_
    refine wpAny_bind (wpAny_runValue ?_)
    have hlS:l < s.heap.objs.size:=Heap.lt_size hol
    have hh3:A.in1.in1.in1.handled=none:=by simp [hh]
    have hneI:l≠(s.heap.push { cls:=.type "set",dict:=none,data:=.set #[] 0 (.fresh 0 0 led) }).objs.size:=by
     rw [Heap.size_push]; exact Nat.ne_of_lt (Nat.lt_succ_of_lt hlS)
    have hSf:s.heap.objs.size ∉ [(s.heap.push { cls:=.type "set",dict:=none,data:=.set #[] 0 (.fresh 0 0 led) }).objs.size,l]:=by
     rw [Heap.size_push]; simp only [List.mem_cons,List.mem_singleton,List.not_mem_nil,or_false,not_or]
     exact ⟨Nat.ne_of_lt (Nat.lt_succ_self _),Nat.ne_of_gt hlS⟩
    have hlen:ks.length=items.size:=by have:=hi.length; simpa using this.symm
    have hval:∀ (i:Nat) (v:Value),items[i]? = some v->∃ t,v = .int ((ks.getD i 0:Nat):Int) t:=fun i v hv=>by
     obtain ⟨t,ht⟩:=IntsAre.int_at hi i v (by rw [Array.getElem?_toList]; exact hv)
     have e:(ks.map fun (k:Nat)=>(k:Int)).getD i 0=((ks.getD i 0:Nat):Int):=by
      simp only [List.getD,List.getElem?_map]
      cases ks[i]? <;> rfl
     exact ⟨t,by rw [ht,e]⟩
    refine Xan (L:=!byT w) ((Walks.tuple hh3 _ l hneI items).toS) s.heap.objs.size
     hSf ks hlen h7 hval (items.size - 0) 0 _ 0 (by omega) (Nat.zero_le _)
     ⟨⟨_,Heap.get?_push_size _ rfl,rfl,rfl⟩,⟨_,Heap.get?_push_of_some _ hol',rfl,nl,rfl⟩⟩ ?hS0 ?hR
    case hS0 =>
     refine ⟨by decide,fun k=>.int (k:Int) 0,0,fun k=>⟨0,rfl⟩,?_⟩
     have hget:((s.heap.push { cls:=.type "set",dict:=none,data:=.set #[] 0 (.fresh 0 0 led) }).push { cls:=.type "tuple_iterator",data:=.fields #[.ref l,.int 0 0] }).get? s.heap.objs.size
       = some { cls:=.type "set",dict:=none,data:=.set #[] 0 (.fresh 0 0 led) }:=Heap.get?_push_of_some _ hS
     rw [<- hled]
     exact hget
    case hR =>
     intro s' hm hS'
     obtain ⟨h',g',d',tk',os'⟩:=s'
     have eg:g'=s.gens:=hm.gens
     have ed:d'=s.drawn:=hm.drawn
     have eo:os'=s.os:=hm.os
     subst eg; subst ed; subst eo
     show wpAny _ _ _ _ _ _
     refine wpAny_pure ?_
     show wpAny _ _ (ret Value.none) _ _ _
     refine wpAny_pure ⟨rfl,h',tk',rfl,hS',fun b o hb e=>?_⟩
     have hb1:b≠s.heap.objs.size:=Nat.ne_of_lt hb
     have hb2:b≠(s.heap.push { cls:=.type "set",dict:=none,data:=.set #[] 0 (.fresh 0 0 led) }).objs.size:=by
      rw [Heap.size_push]; exact Nat.ne_of_lt (Nat.lt_succ_of_lt hb)
     exact hm.heap b o (by simp only [List.mem_cons,List.mem_singleton,List.not_mem_nil,or_false,not_or]; exact ⟨hb1,hb2⟩) (Heap.get?_push_of_some _ (Heap.get?_push_of_some _ e))
   ·cases r2 with
    | error e=>exact hr2
    | ok fl2 =>
     cases fl2 with
     | ret r =>
      obtain ⟨rfl,h',tk,rfl,hS',hk'⟩:=hr2
      repeat (any_goals (first | assumption | wp_step))
      exact h _ _ hS' hk'
     | _=>exact hr2.elim
  | _=>exact hr.elim
end
end DW
end
section
set_option maxHeartbeats 4000000
namespace DW
open PySem PySem.Spec PySem.W PySem.Calls PyProof.Rows
theorem X5:entryFor table "set.__iter__" = some Builtin.«frozenset.__iter__»:=entryFor_alias (id':="frozenset.__iter__") (by kernel_rfl) rfl (by decide +kernel) (by kernel_rfl)
theorem Yq:entryFor table "set_iterator.__next__" = some Builtin.«set_iterator.__next__»:=entryFor_of_tree (by kernel_rfl)
theorem Y5:entryFor table "set_iterator.__iter__" = some Builtin.«dict_keyiterator.__iter__»:=entryFor_alias (id':="dict_keyiterator.__iter__") (by kernel_rfl) rfl (by decide +kernel) (by kernel_rfl)
theorem slot_sit_next:Slot "set_iterator" "__next__" "set_iterator.__next__" :=
 .of (owner:="set_iterator") (n:="__next__") (by rw [typeLookup_type,builtinLookup_eq_fast]; kernel_rfl) (by decide +kernel) (by decide +kernel) (by decide +kernel)
  (by first | exact .inl (by decide +kernel) | exact .inr (by decide +kernel)) (by rw [isSubtype_type]; kernel_rfl)
theorem Yr:Slot "set_iterator" "__iter__" "set_iterator.__iter__" :=
 .of (owner:="set_iterator") (n:="__iter__") (by rw [typeLookup_type,builtinLookup_eq_fast]; kernel_rfl) (by decide +kernel) (by decide +kernel) (by decide +kernel)
  (by first | exact .inl (by decide +kernel) | exact .inr (by decide +kernel)) (by rw [isSubtype_type]; kernel_rfl)
theorem Zah:Manifest.owners.lookup (String.ofList ['r','o','t','a','r','e','t','i','_','t','e','s'].reverse)=some Manifest.sig_set_iterator:=by kernel_rfl
theorem Xu (a:Value):argsOk "set_iterator.__next__" ⟨[a],[]⟩:=by
 unfold argsOk; rw [signature?_of (id:="set_iterator.__next__") (n:=['_','_','t','x','e','n','_','_']) (o:=['r','o','t','a','r','e','t','i','_','t','e','s']) (by kernel_rfl) Zah]; kernel_rfl
theorem Wae (a:Value):argsOk "set_iterator.__iter__" ⟨[a],[]⟩:=by
 unfold argsOk; rw [signature?_of (id:="set_iterator.__iter__") (n:=['_','_','r','e','t','i','_','_']) (o:=['r','o','t','a','r','e','t','i','_','t','e','s']) (by kernel_rfl) Zah]; kernel_rfl
section
variable {prog:Program} {w:World} {A:Around} {E:Value->Shared->Prop} {s:Shared} {d it:Addr} {es:Array (Int×Value)} {ep:Nat} {t:SetTable}
noncomputable def setO (es:Array (Int×Value)) (ep:Nat) (t:SetTable):Obj:={ cls:=.type "set",dict:=none,data:=.set es ep t }
noncomputable def sitO (d:Addr) (slot i n ep:Nat):Obj:={ cls:=.type "set_iterator",data:=.fields #[.int (slot:Int) 0,.int (i:Int) 0,.ref d,.int (n:Int) 0,.int (ep:Int) 0] }
end
end DW
end
section
set_option maxHeartbeats 4000000
namespace DW
open PySem PySem.Spec PySem.W PySem.Calls PyProof.Rows
section
variable {prog:Program} {w:World} {A:Around} {E:Value->Shared->Prop} {s:Shared} {d it:Addr} {es:Array (Int×Value)} {ep:Nat} {t:SetTable}
theorem sit_new {Q:Value->Shared->Prop} (ho:s.heap.get? d=some (setO es ep t)) (hp:t.plain=true) (hf:t.fits es.size=true)
  (hQ:Q (.ref s.heap.objs.size) { s with heap:=s.heap.push (sitO d 0 0 es.size ep) }):wpAny (model prog w) A (pyIter (.ref d)) Q E s:=by
 have T0:s.TypeIs (.ref d) "set":=⟨_,ho,rfl⟩
 refine wpAny_pyIter_slot T0 PySem.F.slot_set_iter (wpAny_call_entry PySem.F.slot_set_iter T0 X5 ?_ (PySem.F.args_set_iter_1 _))
 unfold Builtin.«frozenset.__iter__» Builtin.Frozenset.slot0 slotArgs
 simp only [List.isEmpty_nil,Bool.not_true,Bool.false_eq_true,↓reduceIte,bind_assoc,List.length_nil,bne_self_eq_false]
 unfold Builtin.Frozenset.addrOf Builtin.Frozenset.sizeOf
 refine wpAny_bind (wpAny_pure ?_)
 try dsimp only
 refine wpAny_bind (wpAny_pure ?_)
 refine wpAny_bind (wpAny_bind (wpAny_setEntries_of ho rfl hf (wpAny_pure ?_)))
 unfold setDrawn setsByText
 refine wpAny_bind (wpAny_bind (wpAny_setState_of ho rfl hf ?_))
 refine wpAny_bind (wpAny_bind (wpAny_askSetting (wpAny_pure ?_)))
 refine wpAny_pure ?_
 dsimp only
 rw [if_neg (fun h=>by
  rw [Bool.and_eq_true] at h
  have h2:=h.2
  change (!t.plain && _)=true at h2
  rw [hp] at h2
  exact absurd h2 (by simp))]
 refine wpAny_bind (wpAny_pure ?_)
 refine wpAny_bind (wpAny_setEpoch_of ho rfl hf ?_)
 refine wpAny_bind (wpAny_newObj_type (wpAny_pure ⟨_,rfl,"set_iterator",_,⟨_,Heap.get?_push_size _ rfl,rfl⟩,slot_sit_next.lookup,?_⟩))
 simpa [rawInt,sitO] using hQ
noncomputable def ordS (w:World) (d:Addr) (ep:Nat) (es:Array (Int×Value)):Array (Int×Value):=if byT w=true then pickOrder (w.params.setOrder d ep) es else es
noncomputable def Yh (w:World) (t:SetTable) (i:Nat):Nat:=if byT w=true then 0 else (match i with | 0=>0 | j + 1=>t.place.getD j 0 + 1)
theorem Xr {slot i n:Nat} (h:s.heap.get? it=some (sitO d slot i n ep)):s.TypeIs (.ref it) "set_iterator":=⟨_,h,rfl⟩
theorem Xax {Q:Option (Value×Nat)->Shared->Prop} {i:Nat} (ho:s.heap.get? d=some (setO es ep t)) (hp:t.plain=true) (hl:t.led = !byT w) (hf:t.fits es.size=true)
  (hb:byT w=false->SetTable.below t.place (Yh w t i)=i) (hQ:Q (((ordS w d ep es)[i]?).map fun e=>(e.2,Yh w t (i + 1))) s):wpAny (model prog w) A (setNext d (Yh w t i) i ep) Q E s:=by
 unfold setNext
 refine wpAny_bind (wpAny_setState_of ho rfl hf ?_)
 dsimp only
 refine wpAny_bind ?_
 unfold setsByText
 refine wpAny_bind (wpAny_askSetting (wpAny_pure ?_))
 change wpAny _ _ (if byT w=true then _ else _) _ _ _
 by_cases c:byT w=true
 ·rw [if_pos c]
  simp only [bne_self_eq_false,Bool.false_eq_true,if_false]
  refine wpAny_bind ?_
  unfold setWalk setsByText
  refine wpAny_bind (wpAny_setState_of ho rfl hf ?_)
  dsimp only
  refine wpAny_bind ?_
  refine wpAny_bind (wpAny_askSetting (wpAny_pure ?_))
  change wpAny _ _ (if byT w=true then _ else _) _ _ _
  rw [if_pos c]
  refine wpAny_bind (wpAny_askSetting (wpAny_pure ?_))
  refine wpAny_pure ?_
  have hQ':Q (Option.map (fun e=>(e.snd,0)) (pickOrder (w.params.setOrder d ep) es)[i]?) s:=by simpa [ordS,Yh,c] using hQ
  have e0:Yh w t i=0:=by simp [Yh,c]
  rw [e0]
  exact hQ'
 ·rw [if_neg c]
  have c':byT w=false:=by simpa using c
  rw [if_neg (fun h=>by
   change (!t.plain && _)=true at h
   rw [hp] at h
   exact absurd h (by simp))]
  refine wpAny_bind ?_
  change wpAny _ _ (if (!t.led && _)=true then _ else _) _ _ _
  rw [if_neg (by rw [hl,c']; simp)]
  refine wpAny_pure ?_
  refine wpAny_pure ?_
  rw [hb c']
  have hz:t.place.size=es.size:=by
   simp only [SetTable.fits,Bool.and_eq_true,beq_iff_eq] at hf
   exact hf.1
  have e1:ordS w d ep es=es:=by simp [ordS,c]
  rw [e1] at hQ
  cases he:es[i]? with
  | none =>
   rw [he] at hQ
   exact hQ
  | some e =>
   rw [he] at hQ
   have hi:i < t.place.size:=by rw [hz]; exact (Array.getElem?_eq_some_iff.mp he).1
   have hpl:t.place[i]? = some t.place[i]:=Array.getElem?_eq_getElem hi
   have e2:Yh w t (i + 1)=t.place[i] + 1:=by simp [Yh,c,hpl]
   rw [e2] at hQ
   rw [hpl]
   exact hQ
theorem Vbe {h:Heap} {fs:Array Value} {k:Nat} {v:Value} (hit:h.get? it=some { cls:=.type "set_iterator",data:=.fields fs }):(h.update it (Obj.mapFields (·.setIfInBounds k v))).get? it=some { cls:=.type "set_iterator",data:=.fields (fs.setIfInBounds k v) } :=
 Heap.get?_update_self _ hit rfl
theorem Xb2 {Q:Option Value->Shared->Prop} {i:Nat} (hit:s.heap.get? it=some (sitO d (Yh w t i) i es.size ep)) (ho:s.heap.get? d=some (setO es ep t)) (hp:t.plain=true) (hl:t.led = !byT w) (hf:t.fits es.size=true)
  (hb:byT w=false->SetTable.below t.place (Yh w t i)=i) (hne:d≠it) (hi:i < es.size) {e:Int×Value} (he:(ordS w d ep es)[i]? = some e)
  (hQ:∀ h',h'.get? it=some (sitO d (Yh w t (i + 1)) (i + 1) es.size ep)->Heap.SameBut it s.heap h'->Q (some e.2) { s with heap:=h' }):wpAny (model prog w) A (pyNext (.ref it)) Q E s:=by
 have hT:=Xr hit
 unfold pyNext
 refine wpAny_bind (wpAny_attempt (wpAny_callSpecial?_slot (name:=Str.ofString "__next__") hT slot_sit_next (wpAny_call_entry slot_sit_next hT Yq ?_ (Xu _))))
 unfold Builtin.«set_iterator.__next__» slotArgs
 simp only [List.isEmpty_nil,Bool.not_true,Bool.false_eq_true,↓reduceIte,bind_assoc,List.length_nil,bne_self_eq_false]
 refine wpAny_bind (wpAny_pure ?_)
 try dsimp only
 refine wpAny_bind (wpAny_fieldsOf hit rfl ?_)
 dsimp only
 refine wpAny_bind (wpAny_setEntries_of ho rfl hf ?_)
 rw [if_neg (by simp)]
 simp only [Int.toNat_natCast]
 refine wpAny_bind (Xax ho hp hl hf hb ?_)
 rw [he]
 simp only [Option.map_some]
 refine wpAny_bind (wpAny_setField hit rfl (by simp) ?_)
 have h1:(s.heap.update it (Obj.mapFields fun x=>x.setIfInBounds 0 (rawInt ((Yh w t (i + 1):Nat):Int)))).get? it=some (sitO d (Yh w t (i + 1)) i es.size ep):=Vbe hit
 refine wpAny_bind (wpAny_setField h1 rfl (by simp) ?_)
 have h2:((s.heap.update it (Obj.mapFields fun x=>x.setIfInBounds 0 (rawInt ((Yh w t (i + 1):Nat):Int)))).update it (Obj.mapFields fun x=>x.setIfInBounds 1 (rawInt ((i:Int) + 1)))).get? it=some (sitO d (Yh w t (i + 1)) (i + 1) es.size ep):=by
  have:=Vbe (k:=1) (v:=rawInt ((i:Int) + 1)) h1
  rw [this]
  simp [sitO,rawInt]
 refine wpAny_pure ⟨_,rfl,wpAny_pure (hQ _ h2 ((Heap.SameBut.update ..).trans (Heap.SameBut.update ..)))⟩
theorem sit_end {Q:Option Value->Shared->Prop} {i:Nat} (hh:A.handled=none) (hit:s.heap.get? it=some (sitO d (Yh w t i) i es.size ep)) (ho:s.heap.get? d=some (setO es ep t)) (hp:t.plain=true) (hl:t.led = !byT w) (hf:t.fits es.size=true)
  (hb:byT w=false->SetTable.below t.place (Yh w t i)=i) (he:(ordS w d ep es)[i]? = none)
  (hQ:∀ h',Heap.ExtBut it s.heap h'->Q none { s with heap:=h' }):wpAny (model prog w) A (pyNext (.ref it)) Q E s:=by
 have hT:=Xr hit
 unfold pyNext
 refine wpAny_bind (wpAny_attempt (wpAny_callSpecial?_slot (name:=Str.ofString "__next__") hT slot_sit_next (wpAny_call_entry slot_sit_next hT Yq ?_ (Xu _))))
 unfold Builtin.«set_iterator.__next__» slotArgs
 simp only [List.isEmpty_nil,Bool.not_true,Bool.false_eq_true,↓reduceIte,bind_assoc,List.length_nil,bne_self_eq_false]
 refine wpAny_bind (wpAny_pure ?_)
 try dsimp only
 refine wpAny_bind (wpAny_fieldsOf hit rfl ?_)
 dsimp only
 refine wpAny_bind (wpAny_setEntries_of ho rfl hf ?_)
 rw [if_neg (by simp)]
 simp only [Int.toNat_natCast]
 refine wpAny_bind (Xax ho hp hl hf hb ?_)
 rw [he]
 simp only [Option.map_none]
 refine wpAny_bind (wpAny_setField hit rfl (by simp) ?_)
 show wpAny _ _ (newExc (.type "StopIteration") [] >>= _) _ _ _; refine wpAny_bind ?_
 simp only [newExc,newTuple]; refine wpAny_bind (wpAny_newObj_type ?_ (by size_fits)); refine wpAny_bind (m:=firstArgMember _ _) (wpAny_of_eq (a:=Value.none) (by first | rfl | (simp only [firstArgMember]; rfl)) ?_)
 refine wpAny_newObj_type ?_ (by size_fits); simp only [raiseNew]; refine wpAny_bind (wpAny_handled ?_); rw [show A.in1.handled=none from hh]
 refine wpAny_bind (wpAny_pure (wpAny_throw ?_)); refine wpAny_bind (wpAny_isInstance (T:="StopIteration") (b:=true) ⟨_,Heap.get?_push_size _ rfl,rfl⟩ isSubtype_stop ?_)
 exact wpAny_pure (hQ _ (((Heap.SameBut.update ..).extBut.push _).push _))
theorem Yb2 {Q:Value->Shared->Prop} {slot i n:Nat} (hit:s.heap.get? it=some (sitO d slot i n ep)) (h:Q (.ref it) s):wpAny (model prog w) A (pyIter (.ref it)) Q E s:=by
 refine wpAny_pyIter_slot (Xr hit) Yr (wpAny_call_entry Yr (Xr hit) Y5 ?_ (Wae _))
 show wpAny _ _ (ret (.ref it)) _ _ s
 exact wpAny_pure ⟨_,rfl,"set_iterator",_,Xr hit,slot_sit_next.lookup,h⟩
end
end DW
end
section
set_option maxHeartbeats 4000000
namespace DW
open PySem PySem.Spec PySem.W PySem.Calls PyProof.Rows
theorem Xbh {α:Type} (nx:Nat->Nat):∀ (n k:Nat) (l:List α) (out:Array α),l.length=n->(pickOrder.go nx n k l out).toList.Perm (out.toList ++ l)
 | 0,k,l,out,h=>by
  have:l=[]:=List.eq_nil_of_length_eq_zero h
  subst this
  simp [pickOrder.go]
 | n + 1,k,l,out,h=>by
  have hi:nx k % l.length < l.length:=Nat.mod_lt _ (by omega)
  unfold pickOrder.go
  rw [List.getElem?_eq_getElem hi]
  have ih:=Xbh nx n (k + 1) (l.eraseIdx (nx k % l.length)) (out.push l[nx k % l.length]) (by rw [List.length_eraseIdx_of_lt hi]; omega)
  refine ih.trans ?_
  rw [Array.toList_push,List.append_assoc]
  refine List.Perm.append_left _ ?_
  generalize nx k % l.length=i at hi
  have e1:l.eraseIdx i=l.take i ++ l.drop (i + 1):=List.eraseIdx_eq_take_drop_succ ..
  have e2:l=l.take i ++ l[i] :: l.drop (i + 1):=by rw [<- List.drop_eq_getElem_cons hi,List.take_append_drop]
  rw [e1]
  conv=>rhs; rw [e2]
  rw [List.singleton_append]
  exact List.perm_middle.symm
theorem Ybh {α:Type} (nx:Nat->Nat) (xs:Array α):(pickOrder nx xs).toList.Perm xs.toList:=by
 have:=Xbh nx xs.size 0 xs.toList #[] (by simp)
 simpa [pickOrder] using this
theorem Xz {w:World} {d:Addr} {ep:Nat} {es:Array (Int×Value)}:(ordS w d ep es).toList.Perm es.toList:=by
 unfold ordS
 split
 ·exact Ybh _ _
 ·exact .rfl
noncomputable def belOk (m:Nat):Bool:=decide (SetTable.below (subN m).toArray 0=0) && (List.range (subN m).length).all fun j=>decide (SetTable.below (subN m).toArray ((subN m).toArray.getD j 0 + 1)=j + 1)
theorem bel_all:(List.range 128).all belOk=true:=by decide +kernel
theorem Ya3 {w:World} {L:Bool} {m i:Nat} (hm:m < 128) (hi:i<=(subN m).length) (c:byT w=false):SetTable.below (stb L (subN m)).place (Yh w (stb L (subN m)) i)=i:=by
 have h:=List.all_eq_true.mp bel_all m (List.mem_range.mpr hm)
 simp only [belOk,Bool.and_eq_true,decide_eq_true_eq,List.all_eq_true,List.mem_range] at h
 cases i with
 | zero=>simpa [Yh,c,stb] using h.1
 | succ j =>
  have:=h.2 j (by omega)
  simp only [Yh,c,Bool.false_eq_true,if_false]
  exact this
section
variable {prog:Program} {w:World} {A:Around} {E:Value->Shared->Prop} {s:Shared}
theorem Zb2 (hh:A.handled=none) (I d:Addr) (hne:d≠I) {V:Nat->Value} {ep m:Nat} (hm:m < 128) :
  Walks prog w A I [I,d] [I] (subN m).length (fun i v=>∃ e,(ordS w d ep (esN V (subN m)))[i]? = some e/\v=e.2) (fun i h=>i<=(subN m).length/\h.get? I=some (sitO d (Yh w (stb (!byT w) (subN m)) i) i (subN m).length ep)/\h.get? d=some (setO (esN V (subN m)) ep (stb (!byT w) (subN m)))):=by
 have hz:(ordS w d ep (esN V (subN m))).size=(subN m).length:=by
  have:=(Xz (w:=w) (d:=d) (ep:=ep) (es:=esN V (subN m))).length_eq
  simpa [Vd] using this
 have hf:(stb (!byT w) (subN m)).fits (esN V (subN m)).size=true:=by rw [Vd]; exact Wab _ m
 refine ⟨fun b hb=>by simp at hb; simp [hb],fun _ _ _ st hk=>⟨st.1,hk I (by simp) _ st.2.1,hk d (by simp) _ st.2.2⟩,fun i s Q E hi st hQ=>?_,fun s Q E st hQ=>?_,fun _ _ _ _ st hQ=>Yb2 st.2.1 hQ⟩
 ·obtain ⟨st0,st1,st2⟩:=st
  have he:(ordS w d ep (esN V (subN m)))[i]? = some (ordS w d ep (esN V (subN m)))[i]:=by simp [hz,hi]
  have st1':s.heap.get? I=some (sitO d (Yh w (stb (!byT w) (subN m)) i) i (esN V (subN m)).size ep):=by rw [Vd]; exact st1
  refine Xb2 st1' st2 rfl rfl hf (Ya3 hm (by omega)) hne (by rw [Vd]; exact hi) he fun h' n1 sb=>?_
  rw [Vd] at n1
  exact hQ _ h' s.toks ⟨_,he,rfl⟩ ⟨hi,n1,(sb.2 d hne).trans st2⟩ fun b o hb e=>sb.extBut b o (fun h=>hb (by simp [h])) e
 ·obtain ⟨st0,st1,st2⟩:=st
  have he:(ordS w d ep (esN V (subN m)))[(subN m).length]? = none:=by simp [hz]
  have st1':s.heap.get? I=some (sitO d (Yh w (stb (!byT w) (subN m)) (subN m).length) (subN m).length (esN V (subN m)).size ep):=by rw [Vd]; exact st1
  exact sit_end hh st1' st2 rfl rfl hf (Ya3 hm (Nat.le_refl _)) he fun h' eb=>hQ h' s.toks fun b o hb e=>eb b o (fun h=>hb (by simp [h])) e
theorem hint_set {r:Addr} {Q:Bool->Shared->Prop} (hT:s.TypeIs (.ref r) "set") (h:Q false s):wpAny (model prog w) A (Builtin.List.listLengthHint (.ref r)) Q E s:=by
 unfold Builtin.List.listLengthHint
 refine wpAny_bind (wpAny_specialOf hT PySem.F.slot_set_len.lookup ?_)
 generalize hid:("set.__len__" : String)=id0
 wp_delta
 rw [show splitId id0=some ("set","__len__") from by subst hid; decide +kernel]
 subst hid
 refine wpAny_bind (wpAny_isInstance (T:="set") (b:=true) hT (by rw [isSubtype_type]; kernel_rfl) ?_)
 refine wpAny_ite_split (fun hab=>absurd hab (by decide)) (fun _=>?_)
 refine wpAny_ite_split (fun _=>?_) (fun hab=>absurd (by decide +kernel) hab)
 refine wpAny_bind (wpAny_typeOf hT ?_)
 exact wpAny_pure h
theorem set_src {d:Addr} {V:Nat->Value} {ep m:Nat} (hm:m < 128) :
  PySem.W.KdlSrc prog w "set" d d (subN m).length (fun i v=>∃ e,(ordS w d ep (esN V (subN m)))[i]? = some e/\v=e.2) (fun h=>h.get? d=some (setO (esN V (subN m)) ep (stb (!byT w) (subN m)))):=by
 have hf:(stb (!byT w) (subN m)).fits (esN V (subN m)).size=true:=by rw [Vd]; exact Wab _ m
 refine ⟨fun s hm=>⟨_,hm,rfl⟩,fun _ hm=>⟨Heap.lt_size hm,Heap.lt_size hm⟩,fun _ _ hm hk=>hk d (.inl rfl) _ hm,by decide,by decide,fun _ _ s _ hm hq=>hint_set ⟨_,hm,rfl⟩ hq,fun A s hh ho=>?_⟩
 refine ⟨sitO d 0 0 (subN m).length ep,_,(fun _ _ hq=>sit_new ho rfl hf (by rw [Vd]; exact hq)),Zb2 hh _ d (Nat.ne_of_lt (Heap.lt_size ho)) (V:=V) (ep:=ep) hm,⟨Nat.zero_le _,?_,Heap.get?_push_of_some _ ho⟩⟩
 have e0:Yh w (stb (!byT w) (subN m)) 0=0:=by unfold Yh; split <;> rfl
 rw [e0]
 exact Heap.get?_push_size _ rfl
theorem Vbo {os:Array (Int×Value)} {acc:Array Value} {n:Nat} (hn:os.size=n) (h:ItemsOf (fun i v=>∃ e,os[i]? = some e/\v=e.2) acc n):acc.toList=os.toList.map (·.2):=by
 apply List.ext_getElem?
 intro i
 by_cases hi:i < n
 ·have h1:i < acc.size:=by rw [h.1]; exact hi
  obtain ⟨e,e1,e2⟩:=h.2 i acc[i] (by simp [h1])
  have e3:os.toList[i]? = some e:=by rw [Array.getElem?_toList]; exact e1
  rw [List.getElem?_map,e3,Array.getElem?_toList,Array.getElem?_eq_getElem h1,e2]
  rfl
 ·have h1:¬ i < acc.size:=by rw [h.1]; exact hi
  simp [Nat.le_of_not_lt h1,Nat.le_of_not_lt hi,hn]
theorem Yao {d:Addr} {V:Nat->Value} {ep m:Nat} {Q:List Value->Shared->Prop} (hh:A.handled=none) (hm:m < 128) (ho:s.heap.get? d=some (setO (esN V (subN m)) ep (stb (!byT w) (subN m))))
  (hQ:∀ h' tk,s.heap.objs.size < h'.objs.size->(∀ b o,s.heap.get? b=some o->h'.get? b=some o)->Q ((ordS w d ep (esN V (subN m))).toList.map (·.2)) { s with heap:=h',toks:=tk }):wpAny (model prog w) A (collect (.ref d)) Q E s:=by
 have hz:(ordS w d ep (esN V (subN m))).size=(subN m).length:=by
  have:=(Xz (w:=w) (d:=d) (ep:=ep) (es:=esN V (subN m))).length_eq
  simpa [Vd] using this
 have h7:=sub_le m
 have ne:s.heap.objs.size≠d:=Nat.ne_of_gt (Heap.lt_size ho)
 have hS:(s.heap.push { cls:=.type "list",data:=.seq ([]:List Value).toArray }).get? s.heap.objs.size=some { cls:=.type "list",data:=.seq ([]:List Value).toArray }:=Heap.get?_push_size _ rfl
 have key:∀ R:Result->Shared->Prop,(∀ h' tk acc' c',(∀ b o,b≠s.heap.objs.size->(s.heap.push { cls:=.type "list",data:=.seq ([]:List Value).toArray }).get? b=some o->h'.get? b=some o)->h'.get? s.heap.objs.size=some { cls:=.type "list",dict:=none,data:=.seq acc' c',slots:=#[] }->ItemsOf (fun i v=>∃ e,(ordS w d ep (esN V (subN m)))[i]? = some e/\v=e.2) acc' (subN m).length->R (.ok (.ret (.ref s.heap.objs.size))) { s with heap:=h',toks:=tk }) ->
   codeAny (model prog w) A (.builtin "proto.collect" ⟨[.ref d],[]⟩) R s:=fun R hR=>by
  refine codeAny_builtin PySem.F.entry_proto_collect ?_
  rw [Around.under_plainId PySem.F.plain_proto_collect _]
  show wpAny _ A.in1 (do again (.builtin "list.__iadd__" ⟨[<- newList [],.ref d],[]⟩)) _ _ s
  refine wpAny_bind (wpAny_newObj_type (wpAny_pure ⟨plainId_quiet PySem.F.plain_list_iadd _,codeAny_builtin PySem.F.entry_list_iadd ?_⟩))
  rw [Around.under_plainId PySem.F.plain_list_iadd _]
  exact kdl_extend (A:=A) (s:={ s with heap:=s.heap.push { cls:=.type "list",data:=.seq ([]:List Value).toArray } }) (set_src (prog:=prog) (w:=w) hm) hh (Heap.get?_push_of_some _ ho) s.heap.objs.size ne ne (.ref s.heap.objs.size) 0 hS hR (by rw [sizeLine_eq]; omega)
 unfold collect
 refine wpAny_bind (wpAny_runValue (key _ fun h' tk acc' c' hk hS' hacc=>?_))
 show wpAny _ A (load s.heap.objs.size >>= _) _ _ _
 refine wpAny_bind (wpAny_load hS' ?_)
 show wpAny _ A (pure acc'.toList) _ _ _
 rw [Vbo hz hacc]
 exact wpAny_pure (hQ h' tk (Heap.lt_size hS') fun b o e=>hk b o (Nat.ne_of_lt (Heap.lt_size e)) (Heap.get?_push_of_some _ e))
theorem Y8:∀ {l:List (Int×Value)},(∀ e∈l,∃ t,e.2 = .int e.1 t)->IntsAre (l.map (·.2)) (l.map (·.1))
 | [],_=>.nil
 | e :: l,h=>by
  obtain ⟨t,ht⟩:=h e (by simp)
  rw [List.map_cons,List.map_cons,ht]
  exact .cons _ t (Y8 fun x hx=>h x (by simp [hx]))
theorem Za1 {vs:List Value} {r:List Int} (hi:IntsAre vs r):∀ l:List Nat,(∀ i∈l,i < vs.length)->IntsAre (l.map fun i=>vs.getD i Value.none) (l.map fun i=>r[i]?.getD 0)
 | [],_=>.nil
 | i :: l,h=>by
  have hl:=h i (by simp)
  obtain ⟨t,ht⟩:=IntsAre.int_at hi i vs[i] (List.getElem?_eq_getElem hl)
  have e1:vs.getD i Value.none = .int (r[i]?.getD 0) t:=by simp [List.getD,List.getElem?_eq_getElem hl,ht]
  rw [List.map_cons,List.map_cons,e1]
  exact .cons _ t (Za1 hi l fun x hx=>h x (by simp [hx]))
theorem Y6:∀ {a b:List Int},a.Perm b->a.Pairwise (·<=·)->b.Pairwise (·<=·)->a=b
 | [],b,p,_,_=>(List.nil_perm.mp p).symm ▸ rfl
 | x :: a,[],p,_,_=>absurd p.length_eq (by simp)
 | x :: a,y :: b,p,h1,h2=>by
  have hx:x=y:=by
   have m1:x∈y :: b:=p.mem_iff.mp (by simp)
   have m2:y∈x :: a:=p.mem_iff.mpr (by simp)
   rw [List.pairwise_cons] at h1 h2
   rcases List.mem_cons.mp m1 with e | m1
   ·exact e
   ·rcases List.mem_cons.mp m2 with e | m2
    ·exact e.symm
    ·have:=h1.1 y m2; have:=h2.1 x m1; omega
  subst hx
  rw [Y6 (List.Perm.cons_inv p) (List.pairwise_cons.mp h1).2 (List.pairwise_cons.mp h2).2]
theorem Za5 {d:Addr} {m:Nat} {Q:Value->Shared->Prop} (hh:A.handled=none) (hS:TinySet s.heap d (!byT w) m)
  (h:∀ (its:List Value) (q:Addr) (h':Heap) (tk e:Nat),IntsAre its ((subN m).map fun (k:Nat)=>(k:Int))->s.heap.objs.size<=q->(∀ b o,s.heap.get? b=some o->h'.get? b=some o)->h'.get? q=some (seqObj "list" its.toArray e)->Q (.ref q) { s with heap:=h',toks:=tk }) :
  wpAny (model prog w) A (call (.builtin "sorted") [.ref d]) Q E s:=by
 obtain ⟨hm,V,ep,hV,ho⟩:=hS
 have hs7:=sub_le m
 obtain ⟨r,hr,hi⟩:∃ r:List Int,r.Perm ((subN m).map fun (k:Nat)=>(k:Int))/\IntsAre ((ordS w d ep (esN V (subN m))).toList.map (·.2)) r:=by
  have hp:=Xz (w:=w) (d:=d) (ep:=ep) (es:=esN V (subN m))
  refine ⟨(ordS w d ep (esN V (subN m))).toList.map (·.1),?_,Y8 fun e he=>?_⟩
  ·have h1:=hp.map (·.1)
   have e1:(esN V (subN m)).toList.map (·.1)=(subN m).map fun (k:Nat)=>(k:Int):=by simp [esN]
   rw [e1] at h1
   exact h1
  ·have h1:=hp.mem_iff.mp he
   simp only [esN] at h1
   obtain ⟨k,_,rfl⟩:=List.mem_map.mp h1
   exact hV k
 have hlen:=hi.length
 have hrl:r.length=(subN m).length:=by simpa using hr.length_eq
 generalize hvs:(ordS w d ep (esN V (subN m))).toList.map (·.2)=vs at hi hlen
 refine call_function_entry kind_sorted plain_sorted entry_sorted (args_sorted1 _) ?_
 unfold Builtin.«sorted»
 refine wpAny_bind (m:=checkCount "sorted" 1 1 _) (wpAny_pure ?_)
 refine wpAny_bind (Yao hh hm ho fun h1 tk le0 kp=>?_)
 rw [hvs]
 refine wpAny_bind (wpAny_newList ?_ (by show vs.length<=_; rw [sizeLine_eq]; omega))
 have obL:(h1.push (seqObj "list" vs.toArray 0)).get? h1.objs.size=some (seqObj "list" vs.toArray 0):=Heap.get?_push_size _ rfl
 have kp2:∀ b o,s.heap.get? b=some o->(h1.push (seqObj "list" vs.toArray 0)).get? b=some o:=fun b o e=>Heap.get?_push_of_some _ (kp b o e)
 have lt1:∀ b o,s.heap.get? b=some o->b < h1.objs.size:=fun b o e=>Heap.lt_size (kp b o e)
 have le1:s.heap.objs.size<=h1.objs.size:=Nat.le_of_lt le0
 show wpAny _ _ _ _ _ { s with heap:=h1.push (seqObj "list" vs.toArray 0),toks:=tk }
 have hcmp:Comp prog w A.in1.in1 s.heap vs (ltZ r):=Vbt (by omega) fun i v x e1 e2=>by
  obtain ⟨t,ht⟩:=IntsAre.int_at hi i v e1
  have:r.getD i 0=x:=by simp [List.getD,e2]
  exact ⟨t,by rw [ht,this]⟩
 refine wpAny_bind (wpAny_holding (wpAny_call_entry slot_list_sort ⟨_,obL,rfl⟩ entry_list_sort (Yad (lt:=ltZ r) obL (.inl (by omega)) (ltZ_asym r) (Vah r) (fun h2 s' k=>hcmp h2 s' fun b o e=>k b o (Nat.ne_of_lt (lt1 b o e)) (kp2 b o e)) fun p q1 q2=>⟨_,rfl,?_⟩) (args_list_sort _)))
 obtain ⟨e,he⟩:=sortedHeap_at (out:=List.toArray (Yac vs p)) obL
 refine wpAny_pure ⟨_,rfl,h (Yac vs p) h1.objs.size _ tk e ?_ le1 (fun b o q=>?_) he⟩
 ·have hpl:∀ i∈p.toList,i < vs.length:=fun i hi=>by
   have:=q1.mem_iff.mp (Array.mem_toList_iff.mp hi)
   simpa using this
  have hs:p.size=vs.length:=by have:=q1.size_eq; simpa using this
  have h1:IntsAre (Yac vs p) (outZ r p):=Za1 hi p.toList hpl
  have h2:outZ r p=(subN m).map fun (k:Nat)=>(k:Int):=by
   have q1':p.Perm (List.toArray (List.range r.length)):=by rw [show r.length=vs.length by omega]; exact q1
   refine Y6 ((Wbj q1').trans hr) (Vap hs q2) ?_
   rw [List.pairwise_map]
   exact (sub_up m).imp fun h=>by omega
  rw [h2] at h1
  exact h1
 ·rw [sortedHeap_old (Nat.ne_of_lt (lt1 b o q)) (Nat.lt_of_lt_of_le (lt1 b o q) (by rw [Heap.size_push]; omega))]
  exact kp2 b o q
end
end DW
end
section
set_option maxHeartbeats 4000000
namespace DW
open PySem PySem.Spec PyProof.Rows L2
section
variable {X:Cx}
theorem Wac:∀ (ks:List Nat) (m x:Nat),(W0 ks m).testBit x=true<->m.testBit x=true∨x∈ks
 | [],m,x=>by simp [W0]
 | k :: ks,m,x=>by
  rw [W0,Wac ks,Nat.testBit_or,Nat.one_shiftLeft,Nat.testBit_two_pow,Bool.or_eq_true,List.mem_cons,decide_eq_true_eq]
  constructor
  ·rintro ((h | h) | h)
   ·exact .inl h
   ·exact .inr (.inl h.symm)
   ·exact .inr (.inr h)
  ·rintro (h | h | h)
   ·exact .inl (.inl h)
   ·exact .inl (.inr h.symm)
   ·exact .inr h
theorem Xbu (hc:X.calm=true):CallR X (.type "set") (fun xs H Q=>∃ p ks,xs=[.ref p]/\SqT X.K H p ((ks.map fun (k:Nat)=>(k:Int)).map V.int)/\(∀ k∈ks,k < 7)/\∀ q,H q=none->Q (.ref q) (upd H q (.ext fun h=>TinySet h q (!byT X.w) (W0 ks 0)))):=by
 intro pins s σ H xs us Q I r h
 obtain ⟨p,ks,rfl,hs,h7,q⟩:=h
 obtain ⟨u,rfl,rx⟩:=vals1 r
 cases rx
 have hh:=I.ok.hd hc
 obtain ⟨its,vi,pl,hz⟩:=I.tuple hs
 have hi:=DW.vals_ints vi
 refine Vad (items:=its.toArray) (ks:=ks) hh pl (by simpa using hi) h7 fun h' tk hS hk=>?_
 exact ⟨.ref s.heap.objs.size,_,I.laid (t':=tk) (fun b u e=>hk b u (Heap.lt_size e) e) (Nat.le_refl _) (show ObjOk X.prog X.w _ h' _ (.ext fun h=>TinySet h s.heap.objs.size (!byT X.w) (W0 ks 0)) from ⟨hS,(let ⟨_,_,_,_,ho⟩:=hS; ⟨_,ho⟩),fun h1 h2 t e=>t.at e⟩),rfl,q _ (I.hok.fresh (Nat.le_refl _))⟩
theorem Yak (hc:X.calm=true):CallR X (.builtin "sorted") (fun xs H Q=>∃ q m,xs=[.ref q]/\H q=some (.ext fun h=>TinySet h q (!byT X.w) m)/\∀ p,H p=none->Q (.ref p) (upd H p (.lst (((subN m).map fun (k:Nat)=>(k:Int)).map V.int)))):=by
 intro pins s σ H xs us Q I r h
 obtain ⟨a,m,rfl,hp,q⟩:=h
 obtain ⟨u,rfl,rx⟩:=vals1 r
 cases rx
 have hh:=I.ok.hd hc
 obtain ⟨hS,_,_⟩:=(show ObjOk X.prog X.w H s.heap a (.ext fun h=>TinySet h a (!byT X.w) m) from I.hok a _ hp)
 refine Za5 hh hS fun its p h' tk e hi le kp hat=>?_
 have hl:=hi.length
 have:=sub_le m
 refine ⟨.ref p,_,I.laid (t':=tk) (fun b o e=>kp b o e) le ?_,rfl,q p (I.hok.fresh le)⟩
 exact ⟨by rw [sizeLine_eq]; simp; omega,its,e,L2.vals_ints hi,hat⟩
theorem boot_srt:bootBuiltins (Str.ofString "sorted")=some (.builtin "sorted"):=by decide +kernel
theorem Wb6 {a:Expr} {wa:WE} {y z:Str} {p p2 pos pos2:Pos} (hc:X.calm=true) (ha:PE X a (LE X.K wa)) (ey:y=Str.ofString "sorted") (ez:z=Str.ofString "set") (g1:Gl X y) (g2:Gl X z) (m1:X.mg y=none) (m2:X.mg z=none)
  (hs:starEach [a] X.env=(false,eval a X.env) :: starEach [] X.env) :
  PE X (.Call (.Name y p) [.Call (.Name z p2) [a] [] pos2] [] pos) (LE X.K fun ρ μ Q=>wa ρ μ fun d μ1=>Wby d μ1 Q):=by
 subst ey ez
 have hset:=Yl (x:=Str.ofString "set") (p:=p2) (pos:=pos2) (Xbu hc) g2 m2 boot_set (Zg ha Vr hs) (by decide +kernel) (by decide +kernel) hs rfl
 refine PE.wk (Wi (x:=Str.ofString "sorted") (Yak hc) g1 m1 boot_srt (Zg hset Vr rfl) (by decide +kernel) (by decide +kernel) rfl rfl) fun σ H Q h=>?_
 obtain ⟨ρ,θ,μ,Qd,s,h,f⟩:=h
 refine ⟨ρ,θ,μ,_,s,h,fun d v H1 θ1 μ1 w1 g1 r1 h1=>?_⟩
 cases d with
 | tup es =>
  simp only [Wby] at h1
  split at h1
  ·rename_i ns e
   obtain ⟨h7,h1⟩:=h1
   obtain ⟨b0,xs,rfl,hx,_,rs⟩:=Zf r1
   cases Yw rs e
   have en:ns=(ns.map Int.toNat).map fun (k:Nat)=>(k:Int):=by
    rw [List.map_map]
    conv=>lhs; rw [<- List.map_id ns]
    exact List.map_congr_left fun x hx=>by have:=h7 x hx; simp; omega
   have hsq:SqT X.K H1 b0 (((ns.map Int.toNat).map fun (k:Nat)=>(k:Int)).map V.int):=by rw [<- en]; exact SqT.of hx
   refine ⟨b0,ns.map Int.toNat,rfl,hsq,fun k hk=>?_,fun b hb=>⟨b,_,rfl,Yc,fun p hp=>?_⟩⟩
   ·obtain ⟨x,hx,rfl⟩:=List.mem_map.mp hk
    have:=h7 x hx; omega
   ·have e1:=Wh (o:=HO.ext fun h=>TinySet h b (!byT X.w) (W0 (ns.map Int.toNat) 0)) hb
    refine Z0 (w1.ext e1) (fun d v H2 θ2 μ2 w2 g2 r2 h2=>f d v H2 θ2 μ2 w2 ((g1.trans (Grow.ext e1)).trans g2) r2 h2) (ds:=((subN (W0 (ns.map Int.toNat) 0)).map fun (k:Nat)=>(k:Int)).map D.int) ?_ (h1 _ ?_ fun x=>?_) hp
    ·exact W2 _
    ·rw [List.pairwise_map]
     exact (sub_up _).imp fun h=>by omega
    ·rw [List.mem_map]
     constructor
     ·rintro ⟨k,hk,rfl⟩
      obtain ⟨_,hb⟩:=mem_subN.mp hk
      rcases (Wac _ _ _).mp hb with h | h
      ·simp at h
      ·obtain ⟨x,hx,rfl⟩:=List.mem_map.mp h
       have:=h7 x hx
       rw [show ((x.toNat:Nat):Int)=x by omega]; exact hx
     ·intro hx
      have:=h7 x hx
      exact ⟨x.toNat,mem_subN.mpr ⟨by omega,(Wac _ _ _).mpr (.inr (List.mem_map.mpr ⟨x,hx,rfl⟩))⟩,by omega⟩
  ·exact h1.elim
 | _=>exact h1.elim
end
end DW
end
section
set_option maxHeartbeats 4000000
namespace DW
open PySem PySem.Spec PyProof.Rows L2
section
variable {X:Cx}
theorem Zaj {K:PySem.W.Frag} {H:Hp} {θ:List Addr} {μ:Mem} {d:D} {v:V} (wk:WOk K H θ μ) (r:Rp K H θ μ d v) (h:isCell μ d=true):tyV K "list" v H:=by
 cases d with
 | loc n =>
  obtain ⟨a,rfl,ha⟩:=Ye r
  simp only [isCell] at h
  split at h
  ·rename_i ds hn
   obtain ⟨xs,hx,_⟩:=wk.list hn ha
   exact .inl ⟨rfl,xs,.of hx⟩
  ·cases h
 | _=>cases h
theorem le_meth {m:String} {wo:WE} {ws:WA} {σ:L2.St} {H:Hp} {Q:VK} (h:LE X.K (fun ρ μ Q=>wo ρ μ fun x μ1=>isCell μ1 x=true/\ws ρ μ1 fun ds μ2=>Zx m x ds μ2 Q) σ H Q):tBM X.K "list" (lowM X.K (Zx m)) (LE X.K wo) (LA X.K ws) σ H Q:=by
 obtain ⟨ρ,θ,μ,Qd,s,h,f⟩:=h
 refine ⟨ρ,θ,μ,_,s,h,fun x v H1 θ1 μ1 w1 g1 r1 h1=>⟨Zaj w1 r1 h1.1,ρ,θ1,μ1,_,s.grow w1 g1,h1.2,fun ds vs H2 θ2 μ2 w2 g2 r2 h2=>?_⟩⟩
 exact ⟨x,ds,θ2,μ2,Qd,w2,g2.rep r1,r2,h2,f.mono (g1.trans g2)⟩
theorem le_meth0 {m:String} {wo:WE} {σ:L2.St} {H:Hp} {Q:VK} (h:LE X.K (fun ρ μ Q=>wo ρ μ fun x μ1=>isCell μ1 x=true/\Zx m x [] μ1 Q) σ H Q):tBM0 X.K "list" (lowM X.K (Zx m)) (LE X.K wo) σ H Q:=by
 obtain ⟨ρ,θ,μ,Qd,s,h,f⟩:=h
 refine ⟨ρ,θ,μ,_,s,h,fun x v H1 θ1 μ1 w1 g1 r1 h1=>⟨Zaj w1 r1 h1.1,?_⟩⟩
 exact ⟨x,[],θ1,μ1,Qd,w1,r1,Reps.nil,h1.2,f.mono g1⟩
theorem Vat {o:Expr} {m:Str} {env:Env} (h:Vbw o=true) (hm:m=Str.ofString "append"∨m=Str.ofString "insert"):attributeBase o m env (eval o env)=eval o env:=by
 cases o with
 | Call f as ks p=>obtain ⟨x,q,a,r,rfl,rfl⟩:=Zaa h; rfl
 | _=>first | rfl | exact (Bool.false_ne_true h).elim
theorem few_of {c:Ctx} {cpos:Pos} {as:Es} {e:Expr} {es:List Expr} (h:mEs c as (e :: es)=true) (h30:(e :: es).length < 30):((backTo cpos (starEach (e :: es) X.env)).all (fun x=>!x.1) && (backToKw cpos (keywordEach [] X.env)).all (fun x=>x.1.isSome)
   && decide ((e :: es).length + ([]:List Keyword).length + (if ([]:List Keyword).isEmpty then 0 else 1) < 30))=true:=by
 have h1:(backTo cpos (starEach (e :: es) X.env)).all (fun x=>!x.1)=true:=by
  have:=Wm (pos:=cpos) (env:=X.env) h
  rw [List.all_eq_not_any_not]
  simpa using this
 have h2:(backToKw cpos (keywordEach [] X.env)).all (fun x=>x.1.isSome)=true:=rfl
 rw [h1,h2]
 simpa using h30
noncomputable abbrev WO:=Rho->Mem->(Option Int->Mem->Prop)->Prop
noncomputable def LO (K:PySem.W.Frag) (w:WO):TO:=fun σ H Q=>∃ ρ θ μ Qd,Sim K σ H ρ θ μ/\w ρ μ Qd/\∀ (o:Option Int) (H':Hp) (θ':List Addr) (μ':Mem),WOk K H' θ' μ'->Grow H θ μ H' θ' μ'->Qd o μ'->Q o H'
theorem Yb5:PO X none (LO X.K fun _ μ Q=>Q none μ):=fun pins s σ H Q I h=>by
 obtain ⟨ρ,θ,μ,Qd,sm,h,f⟩:=h
 exact po_none pins s σ H Q I (f none H θ μ sm.wok Grow.refl h)
theorem Zb5 {a:Expr} {w:WE} (ha:PE X a (LE X.K w)):PO X (some a) (LO X.K fun ρ μ Q=>w ρ μ fun d μ1=>wInt d μ1 fun i μ2=>Q (some i) μ2):=fun pins s σ H Q I h=>by
 obtain ⟨ρ,θ,μ,Qd,sm,h,f⟩:=h
 refine po_some ha pins s σ H Q I ⟨ρ,θ,μ,_,sm,h,fun d v H1 θ1 μ1 w1 g1 r1 h1=>?_⟩
 cases d with
 | int i=>exact ⟨i,Zb r1,f (some i) H1 θ1 μ1 w1 g1 h1⟩
 | _=>exact h1.elim
theorem le_slc {m:Bool} {wa:WE} {wl wh:WO} {σ:L2.St} {H:Hp} {Q:VK} (h:LE X.K (fun ρ μ Q=>wa ρ μ fun x μ1=>wl ρ μ1 fun l μ2=>wh ρ μ2 fun h μ3=>wSlc m x l h μ3 Q) σ H Q) :
  tSl (lowSl X.K m) (LE X.K wa) (LO X.K wl) (LO X.K wh) σ H Q:=by
 obtain ⟨ρ,θ,μ,Qd,s,h,f⟩:=h
 refine ⟨ρ,θ,μ,_,s,h,fun x v H1 θ1 μ1 w1 g1 r1 h1=>⟨ρ,θ1,μ1,_,s.grow w1 g1,h1,fun l H2 θ2 μ2 w2 g2 h2=>⟨ρ,θ2,μ2,_,s.grow w2 (g1.trans g2),h2,fun o H3 θ3 μ3 w3 g3 h3=>?_⟩⟩⟩
 exact ⟨x,θ3,μ3,Qd,w3,(g2.trans g3).rep r1,h3,f.mono ((g1.trans g2).trans g3)⟩
noncomputable def isTup:Expr->Bool
 | .Tuple ..=>true
 | _=>false
theorem Yaa {c:Ctx} {is:List Nat} {tt:Bool} {t:Expr} {it:It} (h:mTg c is tt t=true) (hz:Vae tt it=true):Vae (isTup t) it=true:=by
 cases it with
 | _=>rfl
theorem mI_set {c:Ctx} {it:It} {a:Expr} (h:mI c it a=true):Vm a=true:=by
 cases it with
 | seq e=>simp only [mI,Bool.and_eq_true] at h; exact h.2
 | _ =>
  obtain ⟨t,e,_⟩:=Wa h
  obtain ⟨p,q,rfl⟩:=Xe e
  rfl
theorem lt_chain {p q:CmpOp} {wa wb wc:WE} {σ:L2.St} {H:Hp} {Q:Bool->Hp->Prop}
  (h:LT X.K (fun ρ μ Q=>wa ρ μ fun x μ1=>wb ρ μ1 fun y μ2=>wCmp p x y μ2 fun r μ3=>wBl r μ3 fun t μ3=>if t=true then wc ρ μ3 fun z μ4=>wCmp q y z μ4 fun r μ5=>wBl r μ5 Q else Q false μ3) σ H Q) :
  Xb1 (Vaw (low2 X.K (wCmp p)) (low2 X.K (wCmp q)) (LE X.K wa) (LE X.K wb) (LE X.K wc)) σ H Q:=by
 obtain ⟨ρ,θ,μ,Qd,s,h,f⟩:=h
 refine Xaz (Q:=fun x H'=>∃ k,x = .bl k/\Q k H') ⟨ρ,θ,μ,fun r μ'=>wBl r μ' Qd,s,h,fun r v H1 θ1 μ1 w1 g1 r1 h1=>?_⟩
 cases r with
 | bl b=>exact ⟨b,Vh r1,f b H1 θ1 μ1 w1 g1 h1⟩
 | _=>exact h1.elim
theorem Vk {a:Expr} {t:TT} (h:∀ op vs pos,a≠.BoolOp op vs pos):∀ op vs pos,a = .BoolOp op vs pos->PW X a t:=fun op vs pos e=>absurd e (h op vs pos)
end
theorem Xo {c:Ctx} {as:Es} {e:Expr} {es:List Expr} (h:mEs c as (e :: es)=true):notStar e=true/\∃ es',mEs c es' es=true:=by
 cases as with
 | nil=>exact (Bool.false_ne_true h).elim
 | cons e' es' =>
  simp only [mEs,Bool.and_eq_true] at h
  exact ⟨h.1.2,es',h.2⟩
theorem pe_cstD {X:Cx} {k:Const} {j:Nat} {pos:Pos} {d:D} (h:mC k d=true):PE X (.Constant k j pos) (LE X.K (wE (.cst d))):=by
 cases k <;> cases d <;> simp only [mC,Bool.false_eq_true,Bool.and_eq_true,beq_iff_eq] at h
 ·exact PE.wk pe_non fun σ H Q q=>Vx (fun _ _ _=>W6) q
 ·subst h; exact PE.wk pe_bl fun σ H Q q=>Vx (fun _ _ _=>Vl) q
 ·subst h; exact PE.wk pe_int fun σ H Q q=>Vx (fun _ _ _=>Yd) q
 ·rename_i x y
  obtain ⟨h1,h2⟩:=h
  have h1:=of_decide_eq_true h1
  have h2:=of_decide_eq_true h2
  subst h1
  have e:x=⟨x.cps.toList.toArray⟩:=by simp
  refine PE.wk pe_str fun σ H Q q=>Vx (fun _ _ _=>?_) q
  rw [e]
  exact Wr (by rw [sizeLine_eq]; exact h2)
theorem cmOr {c:Ctx} {it:It} {tt:Bool} (h:(c.calm || (Yap it && !tt))=true):c.calm=true∨Yap it=true:=by
 rcases Bool.or_eq_true_iff.mp h with h | h
 ·exact .inl h
 ·exact .inr (Bool.and_eq_true_iff.mp h).1
theorem cmTt {c:Ctx} {it:It} {tt:Bool} (h:(c.calm || (Yap it && !tt))=true):tt=true->c.calm=true:=fun z=>by
 subst z
 simpa using h
mutual
theorem sE:∀ (e:E) {X:Cx} {c:Ctx} {a:Expr},CtxOk X c->mE c e a=true->okE (Yk X) (Wo X) e->Snd X e a
 | .var i,X,c,a,C,h,_=>by
  have h:(opt (Vy a) fun x=>c.at_ i x && c.vis x && !We x)=true:=h
  obtain ⟨x,e,hh⟩:=Wa h
  obtain ⟨pos,rfl⟩:=Xn e
  have h:=hh
  simp only [Bool.and_eq_true,Bool.not_eq_true'] at h
  obtain ⟨⟨h1,h2⟩,h3⟩:=h
  obtain ⟨o1,o2⟩:=Zd h3
  have pe:PE X (.Name x pos) (LE X.K (wE (.var i))):=PE.wk (pe_varD (by rw [C.N]; exact V4 h1) (C.vis x h2) o1 o2) fun σ H Q q=>q
  refine ⟨pe,PT.wk (Wu pe fun _=>rfl) fun σ H Q q=>?_,Vk (fun _ _ _ z=>by cases z)⟩
  obtain ⟨ρ,θ,μ,Qd,s,q,f⟩:=q
  refine ⟨ρ,θ,μ,Qd,s,?_,f⟩
  simp only [wT] at q
  simp only [wE]
  split at q
  ·exact q
  ·exact q.elim
 | .cst d,X,c,a,C,h,_=>by
  have h:(opt (Vba a) fun k=>mC k d)=true:=h
  obtain ⟨k,e,hh⟩:=Wa h
  obtain ⟨j,pos,rfl⟩:=Xa4 e
  have h:=hh
  have pe:=pe_cstD (X:=X) (j:=j) (pos:=pos) h
  refine ⟨pe,PT.wk (Wu pe fun _=>rfl) fun σ H Q q=>?_,Vk (fun _ _ _ z=>by cases z)⟩
  obtain ⟨ρ,θ,μ,Qd,s,q,f⟩:=q
  exact ⟨ρ,θ,μ,Qd,s,q,f⟩
 | .bin op l r,X,c,a,C,h,ok=>by
  have h:(opt (vBin a) fun t=>op == t.2.1 && mE c l t.1 && mE c r t.2.2)=true:=h
  obtain ⟨⟨l',op',r'⟩,e,hh⟩:=Wa h
  obtain ⟨pos,rfl⟩:=Yaw e
  have h:=hh
  simp only [Bool.and_eq_true,beq_iff_eq] at h
  obtain ⟨⟨rfl,h1⟩,h2⟩:=h
  exact ⟨PE.wk (pe_op (bin_ok op) (sE l C h1 ok.1).pe (sE r C h2 ok.2).pe) fun σ H Q q=>Yai q,Yg,Vk (fun _ _ _ z=>by cases z)⟩
 | .neg l,X,c,a,C,h,ok=>by
  have h:(opt (vNeg a) fun t=>mE c l t)=true:=h
  obtain ⟨l',e,hh⟩:=Wa h
  obtain ⟨pos,rfl⟩:=Ybz e
  have h:=hh
  have S1:=sE l C h ok
  refine ⟨PE.wk (pe_un un_neg S1.pe) fun σ H Q q=>?_,Yg,Vk (fun _ _ _ z=>by cases z)⟩
  obtain ⟨ρ,θ,μ,Qd,s,q,f⟩:=q
  refine ⟨ρ,θ,μ,_,s,q,fun x v H1 θ1 μ1 w1 g1 r1 h1=>?_⟩
  cases x with
  | int i=>exact ⟨i,Zb r1,(f.mono g1).at w1 Yd h1⟩
  | _=>exact h1.elim
 | .not l,X,c,a,C,h,ok=>by
  have h:(opt (vNot a) fun t=>mE c l t)=true:=h
  obtain ⟨l',e,hh⟩:=Wa h
  obtain ⟨pos,rfl⟩:=Zbz e
  have h:=hh
  have S1:=sE l C h ok
  refine ⟨PE.wk (pe_not S1.pe) fun σ H Q q=>?_,PT.wk (pt_not S1.pt) fun σ H Q q=>?_,Vk (fun _ _ _ z=>by cases z)⟩
  ·obtain ⟨ρ,θ,μ,Qd,s,q,f⟩:=q
   refine ⟨ρ,θ,μ,_,s,q,fun x v H1 θ1 μ1 w1 g1 r1 h1=>?_⟩
   cases x with
   | bl b=>exact ⟨b,Vh r1,(f.mono g1).at w1 Vl h1⟩
   | _=>exact h1.elim
  ·obtain ⟨ρ,θ,μ,Qd,s,q,f⟩:=q
   exact ⟨ρ,θ,μ,_,s,q,fun b H1 θ1 μ1 w1 g1 h1=>f (!b) H1 θ1 μ1 w1 g1 h1⟩
 | .cmp op l r,X,c,a,C,h,ok=>by
  have h:(opt (vCmp a) fun t=>op == t.2.1 && mE c l t.1 && mE c r t.2.2 && Vm t.2.2)=true:=h
  obtain ⟨⟨l',op',r'⟩,e,hh⟩:=Wa h
  obtain ⟨pos,rfl⟩:=Zaw e
  have h:=hh
  simp only [Bool.and_eq_true,beq_iff_eq] at h
  obtain ⟨⟨⟨rfl,h1⟩,h2⟩,h3⟩:=h
  have S1:=sE l C h1 ok.1
  have S2:=sE r C h2 ok.2
  obtain ⟨k,hr⟩:=C.room
  exact ⟨PE.wk (pe_cmpR (V9 hr op) S1.pe S2.pe (Xbf h3)) fun σ H Q q=>Yai q,PT.wk (pt_cmpR (V9 hr op) S1.pe S2.pe (Xbf h3)) fun σ H Q q=>lt_bl (w:=wE (.cmp op l r)) (fun _ _ _ z=>Yai z) q,Vk (fun _ _ _ z=>by cases z)⟩
 | .chain p q l m r,X,c,a,C,h,ok=>by
  have h:(opt (vCmp2 a) fun t=>p == t.2.1 && q == t.2.2.1 && mE c l t.1 && mE c m t.2.2.2.1 && mE c r t.2.2.2.2 && Vm t.2.2.2.2 && Vm t.2.2.2.1)=true:=h
  obtain ⟨⟨l',p',q',m',r'⟩,e,hh⟩:=Wa h
  obtain ⟨pos,rfl⟩:=Zbb e
  have h:=hh
  simp only [Bool.and_eq_true,beq_iff_eq] at h
  obtain ⟨⟨⟨⟨⟨⟨rfl,rfl⟩,h1⟩,h2⟩,h3⟩,h4⟩,h5⟩:=h
  have S1:=sE l C h1 ok.1
  have S2:=sE m C h2 ok.2.1
  have S3:=sE r C h3 ok.2.2
  obtain ⟨k,hr⟩:=C.room
  have hm:lastMarks [p,q] [m',r']=false:=by
   show behindInMarks q r'=false
   exact Xbf h4
  exact ⟨PE.wk (Xb7 (V9 hr p) (V9 hr q) S1.pe S2.pe S3.pe hm) fun σ H Q z=>Xaz z,PT.wk (Xb4 (V9 hr p) (V9 hr q) S1.pe S2.pe S3.pe hm) fun σ H Q z=>lt_chain z,Vk (fun _ _ _ z=>by cases z)⟩
 | .and x y,X,c,a,C,h,ok=>by
  have h:(opt (vAnd a) fun t=>mE c x t.1 && mE c y t.2)=true:=h
  obtain ⟨⟨v,y'⟩,e,h⟩:=Wa h
  simp only [Bool.and_eq_true] at h
  have S1:=sE x C h.1 ok.1
  have S2:=sE y C h.2 ok.2
  rcases Wbz e with ⟨pos,rfl⟩ | ⟨w,z,rest,pos,rfl,rfl⟩
  ·have pw:PW X (.BoolOp .And [v,y'] pos) (LT X.K (wT (.and x y))):=PW.wk (pw_and S1.pt (pw_and1 S2.pt)) fun σ H Q q=>lt_and q
   exact ⟨PE.wk (pe_and S1.pe (pe_one S2.pe)) fun σ H Q q=>le_and q,pw.pt,fun _ _ _ _=>pw⟩
  ·have pw:PW X (.BoolOp .And (v :: w :: z :: rest) pos) (LT X.K (wT (.and x y))):=PW.wk (pw_and S1.pt (S2.pw _ _ _ rfl)) fun σ H Q q=>lt_and q
   exact ⟨PE.wk (pe_and S1.pe S2.pe) fun σ H Q q=>le_and q,pw.pt,fun _ _ _ _=>pw⟩
 | .or x y,X,c,a,C,h,ok=>by
  have h:(opt (vOr a) fun t=>mE c x t.1 && mE c y t.2)=true:=h
  obtain ⟨⟨v,y'⟩,e,h⟩:=Wa h
  simp only [Bool.and_eq_true] at h
  have S1:=sE x C h.1 ok.1
  have S2:=sE y C h.2 ok.2
  rcases vOr_inv e with ⟨pos,rfl⟩ | ⟨w,z,rest,pos,rfl,rfl⟩
  ·have pw:PW X (.BoolOp .Or [v,y'] pos) (LT X.K (wT (.or x y))):=PW.wk (pw_or S1.pt (pw_or1 S2.pt)) fun σ H Q q=>lt_or q
   exact ⟨PE.wk (pe_or S1.pe (pe_one S2.pe)) fun σ H Q q=>le_or q,pw.pt,fun _ _ _ _=>pw⟩
  ·have pw:PW X (.BoolOp .Or (v :: w :: z :: rest) pos) (LT X.K (wT (.or x y))):=PW.wk (pw_or S1.pt (S2.pw _ _ _ rfl)) fun σ H Q q=>lt_or q
   exact ⟨PE.wk (pe_or S1.pe S2.pe) fun σ H Q q=>le_or q,pw.pt,fun _ _ _ _=>pw⟩
 | .call x sp as,X,c,a,C,h,ok=>by
  have h:(opt (Wl a) fun t=>x == t.1 && c.glb x && !We x && mEs c as t.2)=true:=h
  obtain ⟨⟨y,args⟩,e,hh⟩:=Wa h
  obtain ⟨p,pos,rfl⟩:=Xe e
  have h:=hh
  simp only [Bool.and_eq_true,Bool.not_eq_true',beq_iff_eq] at h
  obtain ⟨⟨⟨rfl,h1⟩,h2⟩,h3⟩:=h
  have pe:PE X (.Call (.Name x p) args [] pos) (LE X.K (wE (.call x sp as))):=by
   cases args with
   | nil =>
    cases as with
    | nil=>exact PE.wk (Zbj ok.1 (C.glb x h1) (Zd h2).1) fun σ H Q q=>q
    | cons e es=>exact (Bool.false_ne_true h3).elim
   | cons e es =>
    obtain ⟨hst,es',hes⟩:=Xo h3
    exact PE.wk (Vb7 ok.1 (C.glb x h1) (sEs as C h3 ok.2) (Zd h2).1 (Zh hst) (Wm hes)) fun σ H Q q=>q
  exact ⟨pe,PT.wk (Wu pe fun _=>rfl) fun σ H Q q=>q,Vk (fun _ _ _ z=>by cases z)⟩
 | .blt x as,X,c,a,C,h,ok=>by
  have h:(opt (Wl a) fun t=>c.calm && knownB.contains x && bname x == t.1 && Wd c t.1 && mEs c as t.2 && !t.2.isEmpty)=true:=h
  obtain ⟨⟨y,args⟩,e,hh⟩:=Wa h
  obtain ⟨p,pos,rfl⟩:=Xe e
  have h:=hh
  simp only [Bool.and_eq_true,Bool.not_eq_true',beq_iff_eq,Wd] at h
  obtain ⟨⟨⟨⟨⟨hc,h0⟩,h1⟩,h2,h3⟩,h4⟩,h5⟩:=h
  cases args with
  | nil=>simp at h5
  | cons a1 es =>
   obtain ⟨hst,es',hes⟩:=Xo h4
   have pe:PE X (.Call (.Name y p) (a1 :: es) [] pos) (LE X.K (wE (.blt x as))):=PE.wk (pe_bltD (as:=[]) (by simpa using h0) h1.symm (C.calm hc) (C.room) (C.glb y h2) (C.blt y h3) (sEs as C h4 ok) (Zh hst) (Wm hes)) fun σ H Q q=>q
   exact ⟨pe,PT.wk (Wu pe fun _=>rfl) fun σ H Q q=>q,Vk (fun _ _ _ z=>by cases z)⟩
 | .isin l t,X,c,a,C,h,ok=>by
  have h:(opt (Wl a) fun q=>opt (vTwo q.2) fun w=>opt (Vy w.2) fun z=>(q.1 == Str.ofString "isinstance") && Wd c q.1 && ["int","bool","str","tuple","list","dict"].contains t && (z == Str.ofString t) && Wd c z && mE c l w.1 && notStar w.1)=true:=h
  obtain ⟨⟨y,args⟩,e,hh⟩:=Wa h
  obtain ⟨p,pos,rfl⟩:=Xe e
  have h:=hh
  obtain ⟨⟨l',zz⟩,e2,hh⟩:=Wa h
  obtain rfl:=Xav e2
  have h:=hh
  obtain ⟨z,e3,h⟩:=Wa h
  obtain ⟨p2,e4⟩:=Xn e3
  simp only at e4
  subst e4
  simp only [Bool.and_eq_true,beq_iff_eq,Wd] at h
  obtain ⟨⟨⟨⟨⟨⟨h0,h1,h2⟩,h3⟩,h4⟩,h5,h6⟩,h7⟩,h8⟩:=h
  have pe:PE X (.Call (.Name y p) [l',.Name z p2] [] pos) (LE X.K (wE (.isin l t))):=PE.wk (Yb7 (sE l C h7 ok).pe h0 (by simpa using h3) h4 (C.glb y h1) (C.glb z h5) (C.blt y h2) (C.blt z h6) (Zh h8)) fun σ H Q q=>q
  refine ⟨pe,PT.wk (Wu pe fun _=>rfl) fun σ H Q q=>?_,Vk (fun _ _ _ z=>by cases z)⟩
  obtain ⟨ρ,θ,μ,Qd,s,q,f⟩:=q
  refine ⟨ρ,θ,μ,_,s,q,fun r H1 θ1 μ1 w1 g1 h1=>f r H1 θ1 μ1 w1 g1 h1⟩
 | .isin l t (some ks),X,c,a,C,h,ok=>by
  have h:(opt (vCmp a) fun w=>opt (Vy w.2.2) fun z=>(w.2.1 == .In) && (z == Str.ofString t) && c.glb z && !We z && mE c l w.1)=true:=h
  obtain ⟨⟨l',op',r'⟩,e,hh⟩:=Wa h
  obtain ⟨pos,rfl⟩:=Zaw e
  obtain ⟨z,e3,h⟩:=Wa hh
  obtain ⟨p2,e4⟩:=Xn e3
  simp only at e4
  subst e4
  simp only [Bool.and_eq_true,beq_iff_eq,Bool.not_eq_true'] at h
  obtain ⟨⟨⟨⟨h0,h1⟩,h2⟩,h3⟩,h4⟩:=h
  subst h0 h1
  obtain ⟨ok1,ok2⟩:=ok
  obtain ⟨a,hm,hd,rfl⟩:=ok1
  have pc:=pc_din (p:=p2) (C.glb _ h2) hm hd (sE l C h4 ok2).pe (Zd h3).1
  exact ⟨PE.wk (pe_cmp pc rfl) fun σ H Q q=>le_din q,PT.wk (pt_cmp pc rfl) fun σ H Q q=>lt_bl (w:=wE (.isin l t (some _))) (fun _ _ _ z=>le_din z) q,Vk (fun _ _ _ z=>by cases z)⟩
 | .lset l s,X,c,a,C,h,ok=>by
  have h:(opt (Wl a) fun q=>opt (vOne q.2) fun r=>opt (Wl r) fun t=>opt (vOne t.2) fun x=>c.calm && (q.1 == Str.ofString (if s then "sorted" else "len")) && Wd c q.1 && (t.1 == Str.ofString "set") && Wd c t.1 && mE c l x && notStar x)=true:=h
  obtain ⟨⟨y,args⟩,e,hh⟩:=Wa h
  obtain ⟨p,pos,rfl⟩:=Xe e
  have h:=hh
  obtain ⟨r,e2,hh⟩:=Wa h
  obtain rfl:=Vav e2
  have h:=hh
  obtain ⟨⟨z,args2⟩,e3,hh⟩:=Wa h
  obtain ⟨p2,pos2,e4⟩:=Xe e3
  simp only at e4
  subst e4
  have h:=hh
  obtain ⟨x,e5,h⟩:=Wa h
  obtain rfl:=Vav e5
  simp only [Bool.and_eq_true,beq_iff_eq,Wd] at h
  obtain ⟨⟨⟨⟨⟨⟨hc,h0⟩,h1,h2⟩,h3⟩,h4,h5⟩,h6⟩,h7⟩:=h
  have hl:=(sE l C h6 ok).pe
  cases s with
  | false=>exact ⟨PE.wk (Zb7 (C.calm hc) hl h0 h3 (C.glb y h1) (C.glb z h4) (C.blt y h2) (C.blt z h5) (Zh h7)) fun σ H Q q=>q,Yg,Vk (fun _ _ _ z=>by cases z)⟩
  | true=>exact ⟨PE.wk (Wb6 (C.calm hc) hl h0 h3 (C.glb y h1) (C.glb z h4) (C.blt y h2) (C.blt z h5) (Zh h7)) fun σ H Q q=>q,Yg,Vk (fun _ _ _ z=>by cases z)⟩
 | .meth m o as,X,c,a,C,h,ok=>by
  have h:(opt (vMeth a) fun t=>(if t.2.2.1.isEmpty then ["reverse"].contains m else ["append"].contains m) && t.2.1 == Str.ofString m && Vbw t.1 && t.2.2.2 && mE c o t.1 && mEs c as t.2.2.1 && decide (t.2.2.1.length < 30))=true:=h
  obtain ⟨⟨o',m',args,ln⟩,e,hh⟩:=Wa h
  obtain ⟨apos,pos,rfl,e2⟩:=Wba e
  have h:=hh
  simp only [Bool.and_eq_true,beq_iff_eq] at h
  obtain ⟨⟨⟨⟨⟨⟨h0,h2⟩,h3⟩,h4⟩,h5⟩,h6⟩,h7⟩:=h
  have hline:(apos.endLine == pos.line)=true:=by rw [<- e2]; exact h4
  refine ⟨?_,Yg,Vk (fun _ _ _ z=>by cases z)⟩
  subst h2
  cases args with
  | nil =>
   have:as = .nil:=by
    cases as with
    | nil=>rfl
    | cons e es=>exact (Bool.false_ne_true h6).elim
   subst this
   have h0':m = "reverse":=by simpa using h0
   rcases h0' with rfl
   ·exact PE.wk (pe_bm0 PySem.F.plainAttrs_list PySem.F.slot_list_reverse PySem.F.type_list_reverse Wah (sE o C h5 ok.1).pe (Xbx h3) hline) fun σ H Q q=>le_meth0 q
  | cons e es =>
   obtain ⟨hst,es',hes⟩:=Xo h6
   have h0':m = "append":=by simpa using h0
   have h7':=of_decide_eq_true h7
   rcases h0' with rfl
   ·exact PE.wk (pe_bm PySem.F.plainAttrs_list PySem.F.slot_list_append PySem.F.type_list_append Vaq (sE o C h5 ok.1).pe (sEs as C h6 ok.2) (Xbx h3) (few_of h6 h7') hline (Zh hst) (Wm hes)) fun σ H Q q=>le_meth q
 | .cat m l r,X,c,a,C,h,ok=>by
  have h:(opt (vBin a) fun t=>t.2.1 == .Add && mE c l t.1 && mE c r t.2.2)=true:=h
  obtain ⟨⟨l',op',r'⟩,e,hh⟩:=Wa h
  obtain ⟨pos,rfl⟩:=Yaw e
  have h:=hh
  simp only [Bool.and_eq_true,beq_iff_eq] at h
  obtain ⟨⟨rfl,h1⟩,h2⟩:=h
  exact ⟨PE.wk (pe_op (cat_ok m) (sE l C h1 ok.1).pe (sE r C h2 ok.2).pe) fun σ H Q q=>Yai q,Yg,Vk (fun _ _ _ z=>by cases z)⟩
 | .idx x y,X,c,a,C,h,ok=>by
  have h:(opt (vSub a) fun t=>mE c x t.1 && mE c y t.2 && Xi t.2)=true:=h
  obtain ⟨⟨x',y'⟩,e,hh⟩:=Wa h
  obtain ⟨pos,rfl⟩:=Vaa e
  have h:=hh
  simp only [Bool.and_eq_true] at h
  have pe:PE X (.Subscript x' y' pos) (LE X.K (wE (.idx x y))):=PE.wk (pe_ix idx_ok (sE x C h.1.1 ok.1).pe (sE y C h.1.2 ok.2).pe (Za6 h.2)) fun σ H Q q=>Yai q
  exact ⟨pe,PT.wk (Wu pe fun _=>rfl) fun σ H Q q=>q,Vk (fun _ _ _ z=>by cases z)⟩
 | .slc m x lo hi,X,c,a,C,h,ok=>by
  have h:(opt (vSlc a) fun t=>mE c x t.1 && mO c lo t.2.1 && mO c hi t.2.2)=true:=h
  obtain ⟨⟨x',lo',hi'⟩,e,hh⟩:=Wa h
  obtain ⟨p2,pos,rfl⟩:=Vby e
  have h:=hh
  simp only [Bool.and_eq_true] at h
  exact ⟨PE.wk (Vb6 (slc_ok m) (sE x C h.1.1 ok.1).pe (sO lo C h.1.2 ok.2.1) (sO hi C h.2 ok.2.2)) fun σ H Q q=>le_slc q,Yg,Vk (fun _ _ _ z=>by cases z)⟩
 | .tup as,X,c,a,C,h,ok=>by
  have h:(opt (vTup a) fun es=>mEs c as es && decide (es.length<=16777216))=true:=h
  obtain ⟨es,e,hh⟩:=Wa h
  obtain ⟨k,pos,rfl⟩:=Wav e
  have h:=hh
  simp only [Bool.and_eq_true] at h
  refine ⟨PE.wk (pe_tup (sEs as C h.1 ok)) fun σ H Q q=>?_,Yg,Vk (fun _ _ _ z=>by cases z)⟩
  obtain ⟨ρ,θ,μ,Qd,s,q,f⟩:=q
  refine ⟨ρ,θ,μ,_,s,q,fun ds vs H1 θ1 μ1 w1 g1 r1 h1=>⟨?_,fun p hp=>Vz w1 (f.mono g1) r1 h1.2 hp⟩⟩
  rw [<- r1.length,<- Ys]; exact h1.1
 | .lst m as,X,c,a,C,h,ok=>by
  have h:(opt (vLst a) fun es=>mEs c as es && decide (es.length<=16777216))=true:=h
  obtain ⟨es,e,hh⟩:=Wa h
  obtain ⟨pos,rfl⟩:=Xbz e
  have h:=hh
  simp only [Bool.and_eq_true] at h
  refine ⟨PE.wk (pe_lst (sEs as C h.1 ok)) fun σ H Q q=>?_,Yg,Vk (fun _ _ _ z=>by cases z)⟩
  obtain ⟨ρ,θ,μ,Qd,s,q,f⟩:=q
  refine ⟨ρ,θ,μ,_,s,q,fun ds vs H1 θ1 μ1 w1 g1 r1 h1=>⟨?_,fun p hp=>Y0 w1 (f.mono g1) r1 h1.2 hp⟩⟩
  rw [<- r1.length,<- Ys]; exact h1.1
 | .comp m n tt cap elt it cond,X,c,a,C,h,ok=>by
  have h:(opt (vComp a) fun t=>(c.calm || (Yap it && !tt)) && opt (Yab tt t.2.1) fun xs=>opt (Wk c cap) fun cs=>n == xs.length && Vas c t.2.2.2.2 (xs ++ cs) cs && Vae tt it && mI c it t.2.2.1 && mTg (c.in_ (xs ++ cs) t.2.2.2.2.names) (List.range n) tt t.2.1 && mE (c.in_ (xs ++ cs) t.2.2.2.2.names) elt t.1 && mEs (c.in_ (xs ++ cs) t.2.2.2.2.names) cond t.2.2.2.1 && decide (t.2.2.2.1.length<=1))=true:=h
  obtain ⟨⟨elt',tg,iter,ifs,scope⟩,e,hh⟩:=Wa h
  obtain ⟨pos,rfl⟩:=Xaf e
  have h:=hh
  simp only [Bool.and_eq_true] at h
  obtain ⟨hcm,h⟩:=h
  obtain ⟨xs,hxs,h⟩:=Wa h
  obtain ⟨cs,hcs,h⟩:=Wa h
  simp only [Bool.and_eq_true,beq_iff_eq] at h
  obtain ⟨⟨⟨⟨⟨⟨⟨hn,h1⟩,hz⟩,h2⟩,hg⟩,h3⟩,h4⟩,h5⟩:=h
  have h5:=of_decide_eq_true h5
  subst hn
  exact ⟨PE.wk (pe_comp (W9 C hcs h1) (sI it C h2 ok.2.1 (Yaa hg hz) (cmOr hcm)) (fun cl Ca s H ex=>Zb6 (Vp C h1 cl Ca s H ex) (cmTt hcm) hg) (fun cl Ca s H ex=>sTs cond (Vp C h1 cl Ca s H ex) h4 h5 ok.2.2) (fun cl Ca s H ex=>(sE elt (Vp C h1 cl Ca s H ex) h3 ok.1).pe) (Z3 (mI_set h2))) fun σ H Q q=>Wbm (tgn hxs) q,Yg,Vk (fun _ _ _ z=>by cases z)⟩
 | .isx l tt ts tab,X,c,a,C,h,ok=>by
  have h:(opt (Wl a) fun q=>opt (vTwo q.2) fun w=>(q.1 == Str.ofString "isinstance") && Wd c q.1 && mE c l w.1 && notStar w.1 && mCl c tt ts w.2)=true:=h
  obtain ⟨⟨y,args⟩,e,hh⟩:=Wa h
  obtain ⟨p,pos,rfl⟩:=Xe e
  have h:=hh
  obtain ⟨⟨l',cl⟩,e2,hh⟩:=Wa h
  obtain rfl:=Xav e2
  have h:=hh
  simp only [Bool.and_eq_true,beq_iff_eq,Wd] at h
  obtain ⟨⟨⟨⟨h0,h1,h2⟩,h3⟩,h4⟩,h5⟩:=h
  have pe:=pe_isxD (p:=p) (pos:=pos) C.glb ok.1 (sE l C h3 ok.2).pe h0 (C.glb y h1) (C.blt y h2) h5 (Zh h4)
  refine ⟨PE.wk pe fun σ H Q q=>q,PT.wk (Wax pe fun _=>rfl) fun σ H Q q=>?_,Vk (fun _ _ _ z=>by cases z)⟩
  obtain ⟨ρ,θ,μ,Qd,s,q,f⟩:=q
  refine ⟨ρ,θ,μ,fun r μ2=>wBl r μ2 Qd,s,q,fun d v H1 θ1 μ1 w1 g1 r1 h1=>?_⟩
  cases d with
  | bl b=>exact ⟨b,Zbd w1 r1 rfl,f b H1 θ1 μ1 w1 g1 h1⟩
  | _=>exact h1.elim
theorem sEs:∀ (es:Es) {X:Cx} {c:Ctx} {as:List Expr},CtxOk X c->mEs c es as=true->okEs (Yk X) (Wo X) es->PA X as (LA X.K (wEs es))
 | .nil,X,c,as,C,h,_=>by
  have:as=[]:=by simpa [mEs] using h
  subst this
  exact PA.wk pa_nilD fun σ H Q q=>q
 | .cons e es,X,c,as,C,h,ok=>by
  cases as with
  | nil=>simp [mEs] at h
  | cons a as =>
   simp only [mEs,Bool.and_eq_true] at h
   exact PA.wk (pa_consD (sE e C h.1.1 ok.1).pe (sEs es C h.2 ok.2) (Zh h.1.2)) fun σ H Q q=>q
theorem sO:∀ (es:Es) {X:Cx} {c:Ctx} {a:Option Expr},CtxOk X c->mO c es a=true->okEs (Yk X) (Wo X) es->PO X a (LO X.K (wO es))
 | .nil,X,c,a,C,h,_=>by
  cases a with
  | none=>exact fun pins s σ H Q I q=>Yb5 pins s σ H Q I q
  | some _=>simp [mO] at h
 | .cons e es,X,c,a,C,h,ok=>by
  cases a with
  | none=>simp [mO] at h
  | some a =>
   cases es with
   | nil=>exact fun pins s σ H Q I q=>Zb5 (sE e C (by simpa [mO] using h) ok.1).pe pins s σ H Q I q
   | cons _ _=>simp [mO] at h
theorem sTs:∀ (es:Es) {X:Cx} {c:Ctx} {as:List Expr},CtxOk X c->mEs c es as=true->as.length<=1->okEs (Yk X) (Wo X) es->PIf X as (LT X.K (wTs es))
 | .nil,X,c,as,C,h,_,_=>by
  have:as=[]:=by simpa [mEs] using h
  subst this
  intro pins s σ H Q I q
  obtain ⟨ρ,θ,μ,Qd,sm,q,f⟩:=q
  exact pif_nil pins s σ H Q I (f true H θ μ sm.wok Grow.refl q)
 | .cons e es,X,c,as,C,h,hl,ok=>by
  cases as with
  | nil=>simp [mEs] at h
  | cons a as =>
   simp only [mEs,Bool.and_eq_true] at h
   have:as=[]:=by
    cases as with
    | nil=>rfl
    | cons _ _=>simp at hl
   subst this
   have:es = .nil:=by
    cases es with
    | nil=>rfl
    | cons _ _=>simp [mEs] at h
   subst this
   have S:=sE e C h.1.1 ok.1
   intro pins s σ H Q I q
   refine pif_one S.pt pins s σ H Q I ?_
   obtain ⟨ρ,θ,μ,Qd,sm,q,f⟩:=q
   exact ⟨ρ,θ,μ,Qd,sm,q,f⟩
theorem sI:∀ (it:It) {X:Cx} {c:Ctx} {a tg:Expr},CtxOk X c->mI c it a=true->okI (Yk X) (Wo X) it->Vae (isTup tg) it=true->(c.calm=true∨Yap it=true)->PI X tg a (LI X.K (wI it))
 | .seq e,X,c,a,tg,C,h,ok,_,hcm=>by
  simp only [mI,Bool.and_eq_true] at h
  exact fun pins s σ H R I q=>pi_seqD (C.calm (hcm.resolve_right Bool.false_ne_true)) (sE e C h.1 ok).pe pins s σ H R I q
 | .rng as,X,c,a,tg,C,h,ok,_,hcm=>by
  have h:(opt (Wl a) fun t=>(t.1 == Str.ofString "range") && Wd c t.1 && mEs c as t.2 && (t.2.length == 1))=true:=h
  obtain ⟨⟨y,args⟩,e,hh⟩:=Wa h
  obtain ⟨p,pos,rfl⟩:=Xe e
  have h:=hh
  simp only [Bool.and_eq_true,Bool.or_eq_true,beq_iff_eq,Wd] at h
  obtain ⟨⟨⟨h0,h1,h2⟩,h3⟩,h4⟩:=h
  have hA:=sEs as C h3 ok
  have hl:=Za2 h3
  match args,h3,h4,hA,hl with
  | [a1],h3,_,hA,hl =>
   have k1:=(Xo h3).1
   exact fun pins s σ H R I q=>Wb5 h0 (C.glb y h1) (C.blt y h2) hA (by rw [Zh k1]; rfl) pins s σ H R I (by simp only [wI,hl] at q; exact q)
  | [],_,h4,_,_=>simp at h4
  | _ :: _ :: _,_,h4,_,_=>simp at h4
end
end DW
end
section
set_option maxHeartbeats 4000000
namespace DW
open PySem PySem.Spec PyProof.Rows L2
theorem Zax {t e:Expr} {n:Nat} {env:Env} (h:Yj e=true):swapsWithSole [t] e n env=pure false:=Van h
theorem Wa9 {o i:Expr} {pos:Pos} {env:Env} (h:Xi i=true):∀ v,assign (.Subscript o i pos) env v=(do
   let ov <- holding [v] (eval o env)
   let iv <- holding [v,ov] (eval i env)
   standAt pos
   holding [v,ov,iv] (setItem ov iv v)
   release [v,ov,iv] []):=by
 intro v
 cases i <;> first | rfl | exact (Bool.false_ne_true h).elim
section
variable {X:Cx} {EX:L2.St->XK}
theorem Vbl {i:Nat} {we:WE} {D:Ends} {σ:L2.St} {H:Hp} (h:LS X.K EX (fun Z ρ μ=>we ρ μ fun d μ1=>Z.nx (ρ.set i (some d)) μ1) D σ H):tAsg (LE X.K we) (Xbr i) D σ H:=by
 obtain ⟨ρ,θ,μ,Z,s,h,f⟩:=h
 exact ⟨ρ,θ,μ,_,s,h,fun d v H1 θ1 μ1 w1 g1 r1 h1=>f.nx _ H1 _ θ1 μ1 ((s.grow w1 g1).set r1 i) g1 h1⟩
theorem ls_asg {bnd:D->Rho->(Rho->Prop)->Prop} {we:WE} {D:Ends} {σ:L2.St} {H:Hp} (h:LS X.K EX (fun Z ρ μ=>we ρ μ fun d μ1=>bnd d ρ fun ρ'=>Z.nx ρ' μ1) D σ H):tAsg (LE X.K we) (LG X.K bnd) D σ H:=by
 obtain ⟨ρ,θ,μ,Z,s,h,f⟩:=h
 exact ⟨ρ,θ,μ,_,s,h,fun d v H1 θ1 μ1 w1 g1 r1 h1=>⟨d,ρ,θ1,μ1,_,s.grow w1 g1,r1,h1,fun σ' ρ' s' q=>f.nx σ' H1 ρ' θ1 μ1 s' g1 q⟩⟩
theorem ls_setIx {wo wi we:WE} {D:Ends} {σ:L2.St} {H:Hp} (h:LS X.K EX (fun Z ρ μ=>we ρ μ fun v μ1=>wo ρ μ1 fun x μ2=>wi ρ μ2 fun y μ3=>Zn x y v μ3 fun μ4=>Z.nx ρ μ4) D σ H) :
  tAsg (LE X.K we) (gSub (LE X.K wo) (LE X.K wi) (fun o i v H Q=>∃ x y z θ μ k,WOk X.K H θ μ/\Rp X.K H θ μ x o/\Rp X.K H θ μ y i/\Rp X.K H θ μ z v/\Zn x y z μ k/\∀ H' μ',WOk X.K H' θ μ'->Grow H θ μ H' θ μ'->k μ'->Q H')) D σ H:=by
 obtain ⟨ρ,θ,μ,Z,s,h,f⟩:=h
 refine ⟨ρ,θ,μ,_,s,h,fun d v H1 θ1 μ1 w1 g1 r1 h1=>⟨ρ,θ1,μ1,_,s.grow w1 g1,h1,fun x vx H2 θ2 μ2 w2 g2 r2 h2=>⟨ρ,θ2,μ2,_,s.grow w2 (g1.trans g2),h2,fun y vy H3 θ3 μ3 w3 g3 r3 h3=>?_⟩⟩⟩
 exact ⟨x,y,d,θ3,μ3,_,w3,g3.rep r2,r3,(g2.trans g3).rep r1,h3,fun H4 μ4 w4 g4 q=>f.nx σ H4 ρ θ3 μ4 (s.grow w4 (((g1.trans g2).trans g3).trans g4)) (((g1.trans g2).trans g3).trans g4) q⟩
theorem Vaf {tg v:Expr} {env:Env} (h:Wz v=true):swappedStores [tg] v env=pure none:=by
 unfold swappedStores
 cases tg <;> first | rfl | (cases v <;> first | rfl | exact (Bool.false_ne_true h).elim)
end
structure SCtx (X:Cx) (EX:L2.St->XK) (c:Ctx):Prop extends CtxOk X c where
 mt:Meets X EX
 lv:c.rs=true->∃ E,Leaves X E/\EX=fun _=>E
 st:c.calm=true->X.ex=[]/\X.stack=X.env :: X.outer/\X.env.frame=some X.env.locals
noncomputable def never:L2.St->XK:=fun _ _ _ _=>False
theorem sctx_b {X:Cx} {EX EX':L2.St->XK} {c:Ctx} {pn:List (Addr×Obj)} {ξ:Value->Shared->Prop} (C:SCtx X EX c) (M:Meets (Xb X pn ξ) EX') (P:PassesOwn (model X.prog X.w) X.A X.env ξ):SCtx (Xb X pn ξ) EX' { c with rs:=false } :=
 ⟨⟨C.N,C.nd,C.vis,C.loc,C.isl,C.glb,C.clo,C.blt,C.calm,C.room,P⟩,M,fun z=>(Bool.false_ne_true z).elim,C.st⟩
theorem Xb3 {X:Cx} {ea:Addr} (r:Room 15 X.A):Room 15 (Xh X ea).A:=⟨fun z=>absurd z (by decide),r.dp,r.un,r.gd⟩
theorem room_h {X:Cx} {ea:Addr} (r:∃ k,Room k X.A):∃ k,Room k (Xh X ea).A:=by
 obtain ⟨k,r⟩:=r
 have r:=r.mono (Nat.min_le_left k 15)
 exact ⟨min k 15,fun z=>absurd (Nat.le_trans z (Nat.min_le_right k 15)) (by decide),r.dp,r.un,r.gd⟩
theorem sctx_h {X:Cx} {EX:L2.St->XK} {c:Ctx} {ea:Addr} (C:SCtx X EX c):SCtx (Xh X ea) never { c with rs:=false,calm:=false } :=
 ⟨⟨C.N,C.nd,C.vis,C.loc,C.isl,C.glb,C.clo,C.blt,fun z=>(Bool.false_ne_true z).elim,room_h C.room,PassesOwn.never⟩,
  fun pins σ H s E' e s' I hE h=>by obtain ⟨_,ob,_,_,H',_,_,_,_,q⟩:=h; exact (hE _ _ H' q).elim,fun z=>(Bool.false_ne_true z).elim,fun z=>(Bool.false_ne_true z).elim⟩
theorem sXC:∀ (k:XC) {X:Cx} {EX:L2.St->XK} {c:Ctx} {a:Expr},SCtx X EX c->mXC c k a=true->okXC (Yk X) (Wo X) k->PE X a (LX X.K EX (wXC k))
 | .fn x sp as,X,EX,c,a,C,h,ok=>by
  replace h:(opt (Wl a) fun t=>x == t.1 && c.glb x && !We x && mEs c as t.2)=true:=h
  obtain ⟨⟨y,args⟩,e,hh⟩:=Wa h
  obtain ⟨p,pos,rfl⟩:=Xe e
  replace h:=hh
  clear e hh
  simp only [Bool.and_eq_true,Bool.not_eq_true',beq_iff_eq] at h
  obtain ⟨⟨⟨rfl,h1⟩,h2⟩,h3⟩:=h
  cases args with
  | nil =>
   cases as with
   | nil=>exact PE.wk (Xa6 C.mt ok.1 (C.glb _ h1) (Zd h2).1) fun σ H Q q=>q
   | cons e es=>exact (Bool.false_ne_true h3).elim
  | cons e es =>
   obtain ⟨hst,es',hes⟩:=Xo h3
   exact PE.wk (Wbi C.mt ok.1 (C.glb _ h1) (sEs as C.toCtxOk h3 ok.2) (Zd h2).1 (Zh hst) (Wm hes)) fun σ H Q q=>q
theorem Xbe {X:Cx} {ea:Addr} {r:Rf} {sp:DSp} (h:hRf (Yk X) r sp):Yk (Xh X ea) r sp:=by
 cases r with
 | fn x=>obtain ⟨fa,fd,ps,h1,h2,h3,h4,h5⟩:=(show Yk X (.fnM x) sp from h); exact ⟨fa,fd,ps,15,h1,h2,h3,h4,Xb3 h5⟩
 | fld c f=>exact h.2
 | isx tt ts tab=>exact h.2
 | efl f tab=>exact h.2
 | _=>exact absurd h.1 (by simp [Rf.still])
mutual
theorem sS:∀ (st:S) {X:Cx} {EX:L2.St->XK} {c:Ctx} {a:Stmt},SCtx X EX c->mS c st a=true->okS (Yk X) (Wo X) st->PS X a (LS X.K EX (wS st))
 | .set i e,X,EX,c,a,C,h,ok=>by
  replace h:(opt (uAsg a) fun t=>opt (Vy t.1) fun x=>c.at_ i x && c.loc x && mE c e t.2 && (Yj t.2 || Yar e))=true:=h
  obtain ⟨⟨tg,v⟩,e1,hh⟩:=Wa h
  obtain ⟨x,e2,hh⟩:=Wa hh
  obtain ⟨p,rfl⟩:=Xn (a:=tg) e2
  obtain ⟨pos,rfl⟩:=Zab e1
  replace h:=hh
  simp only [Bool.and_eq_true] at h
  obtain ⟨⟨⟨h1,h2⟩,h3⟩,h4⟩:=h
  obtain ⟨l1,l2⟩:=C.loc x h2
  have hN:X.N.Nodup:=by rw [C.N]; exact C.nd
  have hi:X.N[i]? = some x:=by rw [C.N]; exact V4 h1
  have S:=sE e C.toCtxOk h3 ok
  by_cases hn:Yj v=true
  ·exact PS.wk (ps_set hN hi l1 S.pe (Van hn) l2) fun D σ H q=>Vbl q
  ·have h4:Yar e=true:=by
    rcases Bool.or_eq_true_iff.mp h4 with z | z
    ·exact absurd z hn
    ·exact z
   cases e with
   | comp m n tt cap elt it cond =>
    have hv:mE c (.comp m n tt cap elt it cond) v=true->∃ elt' tg iter ifs scope vpos,v = .ListComp elt' [⟨tg,iter,ifs,0⟩] scope vpos/\((c.calm || (Yap it && !tt)) && opt (Yab tt tg) fun xs=>opt (Wk c cap) fun cs=>n == xs.length && Vas c scope (xs ++ cs) cs && Vae tt it && mI c it iter && mTg (c.in_ (xs ++ cs) scope.names) (List.range n) tt tg && mE (c.in_ (xs ++ cs) scope.names) elt elt' && mEs (c.in_ (xs ++ cs) scope.names) cond ifs && decide (ifs.length<=1))=true:=fun z=>by
     obtain ⟨⟨elt',tg,iter,ifs,scope⟩,e,hh⟩:=Wa z
     obtain ⟨vpos,e⟩:=Xaf e
     exact ⟨elt',tg,iter,ifs,scope,vpos,e,hh⟩
    obtain ⟨elt',tg,iter,ifs,scope,vpos,rfl,h9⟩:=hv h3
    replace h3:=h9
    have hsw:swapsWith (.ListComp elt' [⟨tg,iter,ifs,0⟩] scope vpos) (some (.Name x p)) pos.line X.env=pure (X.env.blockKind == .function && X.env.kindOf x == some .local && p.line == (Expr.ListComp elt' [⟨tg,iter,ifs,0⟩] scope vpos).pos.line && !(scope.names.any fun (n,k)=>n == x && (k == .local || k == .cell))):=rfl
    cases hb:(X.env.blockKind == .function && X.env.kindOf x == some .local && p.line == (Expr.ListComp elt' [⟨tg,iter,ifs,0⟩] scope vpos).pos.line && !(scope.names.any fun (n,k)=>n == x && (k == .local || k == .cell))) with
    | false =>
     rw [hb] at hsw
     exact PS.wk (ps_set hN hi l1 S.pe hsw l2) fun D σ H q=>Vbl q
    | true =>
     rw [hb] at hsw
     have hl:X.env.scope.names.lookup x=some .local:=by
      simp only [Bool.and_eq_true,beq_iff_eq] at hb
      exact hb.1.1.2
     simp only [Bool.and_eq_true] at h3
     obtain ⟨hcm,h3⟩:=h3
     obtain ⟨xs,hxs,h3⟩:=Wa h3
     obtain ⟨cs,hcs,h3⟩:=Wa h3
     simp only [Bool.and_eq_true,beq_iff_eq] at h3
     obtain ⟨⟨⟨⟨⟨⟨⟨hn,k1⟩,kz⟩,k2⟩,kg⟩,k3⟩,k4⟩,k5⟩:=h3
     have k5:=of_decide_eq_true k5
     subst hn
     have ok':okE (Yk X) (Wo X) elt/\okI (Yk X) (Wo X) it/\okEs (Yk X) (Wo X) cond:=ok
     refine PS.wk (Va5 (gt:=LG X.K fun d r k=>Yo (List.range xs.length) tt d r k) (tt:=LT X.K (wTs cond)) (te:=LE X.K (wE elt)) (wi:=LI X.K (wI it)) (W9 C.toCtxOk hcs k1) (sI it C.toCtxOk k2 ok'.2.1 (Yaa kg kz) (cmOr hcm)) (fun cl Ca s H ex=>Zb6 (Vp C.toCtxOk k1 cl Ca s H ex) (cmTt hcm) kg) (fun cl Ca s H ex=>sTs cond (Vp C.toCtxOk k1 cl Ca s H ex) k4 k5 ok'.2.2) (fun cl Ca s H ex=>(sE elt (Vp C.toCtxOk k1 cl Ca s H ex) k3 ok'.1).pe) (Z3 (mI_set k2)) hN hi hl hsw) fun D σ H q=>?_
     have q:=Vbl (we:=wE (.comp m xs.length tt cap elt it cond)) q
     exact Wbm (tgn hxs) q
   | _=>cases h4
 | .setT is e,X,EX,c,a,C,h,ok=>by
  replace h:(opt (uAsg a) fun t=>opt (vTup t.1) fun ts=>c.calm && Xk c is ts && mE c e t.2 && Yj t.2 && Wz t.2)=true:=h
  obtain ⟨⟨tg,v⟩,e1,hh⟩:=Wa h
  obtain ⟨ts,e2,hh⟩:=Wa hh
  obtain ⟨k,p,rfl⟩:=Wav (a:=tg) e2
  obtain ⟨pos,rfl⟩:=Zab e1
  replace h:=hh
  simp only [Bool.and_eq_true] at h
  obtain ⟨⟨⟨⟨hcm,h1⟩,h2⟩,h3⟩,h4⟩:=h
  have S:=sE e C.toCtxOk h2 ok
  exact PS.wk (ps_asg S.pe (Zb6 C.toCtxOk (is:=is) (tt:=true) (fun _=>hcm) h1) (Zax h3) (Vaf h4) rfl) fun D σ H q=>ls_asg q
 | .augIx op o i e,X,EX,c,a,C,h,ok=>by
  replace h:(opt (uAug a) fun t=>opt (vSub t.1) fun u=>op == t.2.1 && (op == .Add || op == .Sub) && mE c o u.1 && mE c i u.2 && Xi u.2 && mE c e t.2.2)=true:=h
  obtain ⟨⟨tg,op',v⟩,e1,hh⟩:=Wa h
  obtain ⟨⟨o',i'⟩,e2,hh⟩:=Wa hh
  obtain ⟨p,rfl⟩:=Vaa (a:=tg) e2
  obtain ⟨pos,rfl⟩:=Wb0 e1
  replace h:=hh
  simp only [Bool.and_eq_true,Bool.or_eq_true,beq_iff_eq] at h
  obtain ⟨⟨⟨⟨⟨rfl,h0⟩,h1⟩,h2⟩,h3⟩,h4⟩:=h
  have S1:=sE o C.toCtxOk h1 ok.1
  have S2:=sE i C.toCtxOk h2 ok.2.1
  have S3:=sE e C.toCtxOk h4 ok.2.2
  rcases h0 with rfl | rfl
  ·exact PS.wk (Vbg S1.pe S2.pe Ybr S3.pe ip_add Zac (Yam h3)) fun D σ H q=>Yaz augI_add q
  ·exact PS.wk (Vbg S1.pe S2.pe Ybr S3.pe ip_sub Zac (Yam h3)) fun D σ H q=>Yaz augI_sub q
 | .setIx o i e,X,EX,c,a,C,h,ok=>by
  replace h:(opt (uAsg a) fun t=>opt (vSub t.1) fun u=>mE c o u.1 && mE c i u.2 && Xi u.2 && mE c e t.2 && Yj t.2)=true:=h
  obtain ⟨⟨tg,v⟩,e1,hh⟩:=Wa h
  obtain ⟨⟨o',i'⟩,e2,hh⟩:=Wa hh
  obtain ⟨p,rfl⟩:=Vaa (a:=tg) e2
  obtain ⟨pos,rfl⟩:=Zab e1
  replace h:=hh
  simp only [Bool.and_eq_true] at h
  obtain ⟨⟨⟨⟨h1,h2⟩,h3⟩,h4⟩,h5⟩:=h
  exact PS.wk (ps_asg (sE e C.toCtxOk h4 ok.2.2).pe (pg_sub (sE o C.toCtxOk h1 ok.1).pe (sE i C.toCtxOk h2 ok.2.1).pe Zac (Wa9 h3)) (Zax h5) (by cases v <;> rfl) rfl) fun D σ H q=>ls_setIx q
 | .exp e,X,EX,c,a,C,h,ok=>by
  replace h:(opt (uExp a) fun v=>mE c e v && Yj v)=true:=h
  obtain ⟨v,e1,hh⟩:=Wa h
  obtain ⟨pos,rfl⟩:=Xb0 e1
  replace h:=hh
  simp only [Bool.and_eq_true] at h
  refine PS.wk (ps_expr (sE e C.toCtxOk h.1 ok).pe (Van h.2)) fun D σ H q=>?_
  obtain ⟨ρ,θ,μ,Z,s,q,f⟩:=q
  exact ⟨ρ,θ,μ,_,s,q,fun d v H1 θ1 μ1 w1 g1 r1 h1=>f.nx σ H1 ρ θ1 μ1 (s.grow w1 g1) g1 h1⟩
 | .ret e,X,EX,c,a,C,h,ok=>by
  replace h:(opt (uRet a) fun o=>opt o fun v=>mE c e v)=true:=h
  obtain ⟨o,e1,hh⟩:=Wa h
  obtain ⟨v,rfl,hh⟩:=Wa hh
  obtain ⟨pos,rfl⟩:=Xaw e1
  replace h:=hh
  refine PS.wk (ps_ret (sE e C.toCtxOk h ok).pe) fun D σ H q=>?_
  obtain ⟨ρ,θ,μ,Z,s,q,f⟩:=q
  exact ⟨ρ,θ,μ,_,s,q,f.rt⟩
 | .ite t x y,X,EX,c,a,C,h,ok=>by
  replace h:(opt (uIf a) fun u=>mE c t u.1 && mSs c x u.2.1 && mSs c y u.2.2)=true:=h
  obtain ⟨⟨t',x',y'⟩,e1,hh⟩:=Wa h
  obtain ⟨pos,rfl⟩:=uIf_inv e1
  replace h:=hh
  simp only [Bool.and_eq_true] at h
  refine PS.wk (ps_if (sE t C.toCtxOk h.1.1 ok.1).pt (sSs x C h.1.2 ok.2.1) (sSs y C h.2 ok.2.2)) fun D σ H q=>?_
  obtain ⟨ρ,θ,μ,Z,s,q,f⟩:=q
  refine ⟨ρ,θ,μ,_,s,q,fun b H1 θ1 μ1 w1 g1 h1=>?_⟩
  cases b with
  | true=>exact ⟨ρ,θ1,μ1,Z,s.grow w1 g1,h1,f.mono g1⟩
  | false=>exact ⟨ρ,θ1,μ1,Z,s.grow w1 g1,h1,f.mono g1⟩
 | .for_ is tt it b,X,EX,c,a,C,h,ok=>by
  replace h:(opt (uFor a) fun u=>c.calm && mTg c is tt u.1 && mI c it u.2.1 && mSs c b u.2.2 && Vm u.2.1 && Vae tt it)=true:=h
  obtain ⟨⟨t',i',b'⟩,e1,hh⟩:=Wa h
  obtain ⟨pos,rfl⟩:=Yb0 e1
  replace h:=hh
  simp only [Bool.and_eq_true] at h
  obtain ⟨⟨⟨⟨⟨hcm,h1⟩,h2⟩,h3⟩,h4⟩,hz⟩:=h
  exact PS.wk (ps_forD C.pas (C.calm hcm) (sI it C.toCtxOk h2 ok.1 (Yaa h1 hz) (.inl hcm)) (Zb6 C.toCtxOk (fun _=>hcm) h1) (sSs b C h3 ok.2) (Z3 h4)) fun D σ H q=>q
 | .nev,X,EX,c,a,C,h,ok=>fun pins s σ H D I q=>by
  obtain ⟨ρ,θ,μ,Z,sm,q,f⟩:=q
  exact q.elim
 | .retX k,X,EX,c,a,C,h,ok=>by
  replace h:(opt (uRet a) fun o=>opt o fun v=>mXC c k v)=true:=h
  obtain ⟨o,e1,hh⟩:=Wa h
  obtain ⟨v,rfl,hh⟩:=Wa hh
  obtain ⟨pos,rfl⟩:=Xaw e1
  replace h:=hh
  refine PS.wk (ps_ret (sXC k C h ok)) fun D σ H q=>?_
  obtain ⟨ρ,θ,μ,Z,s,q,f⟩:=q
  exact ⟨ρ,θ,μ,_,Z.xc,s,q,f.rt,fun H' θ' μ' cn ks ds w' g' z=>f.xc σ H' ρ θ' μ' cn ks ds (s.grow w' g') g' z⟩
 | .rais cn as,X,EX,c,a,C,h,ok=>by
  replace h:(opt (uRais a) fun v=>opt (Wl v) fun t=>c.rs && c.calm && t.1 == Str.ofString cn && c.glb t.1 && !We t.1 && mEs c as t.2)=true:=h
  obtain ⟨v,e1,hh⟩:=Wa h
  obtain ⟨⟨y,args⟩,e2,h9⟩:=Wa hh
  obtain ⟨np,cpos,rfl⟩:=Xe e2
  obtain ⟨pos,rfl⟩:=Xbb e1
  replace h:=h9
  clear e1 e2 hh h9
  simp only [Bool.and_eq_true,Bool.not_eq_true',beq_iff_eq] at h
  obtain ⟨⟨⟨⟨⟨h1,h2⟩,rfl⟩,h4⟩,h5⟩,h6⟩:=h
  obtain ⟨E,L,rfl⟩:=C.lv h1
  refine PS.wk (Wbg L (C.calm h2) (C.glb _ h4) ok.1 (sEs as C.toCtxOk h6 ok.2) (Wm h6) (Zd h5).1 ?_) fun D σ H q=>q
  cases args with
  | nil=>exact .inl rfl
  | cons e es =>
   refine .inr ⟨e,es,rfl,Zh ?_⟩
   cases as with
   | nil=>simp [mEs] at h6
   | cons e' es'=>simp only [mEs,Bool.and_eq_true] at h6; exact h6.1.2
 | .tryx P tab i b hs,X,EX,c,a,C,h,ok=>by
  replace h:(opt (uTry a) fun t=>opt (uHan t.2) fun u=>opt (Vy u.1) fun y=>c.calm && c.at_ i u.2.1 && c.loc u.2.1 && y == Str.ofString P && c.glb y && !We y && mSs { c with rs:=false } b t.1 && mSs { c with rs:=false,calm:=false } hs (u.2.2.1 :: u.2.2.2))=true:=h
  obtain ⟨⟨body,hd⟩,e1,hh⟩:=Wa h
  obtain ⟨⟨yy,n,s0,suite⟩,e2,hh⟩:=Wa hh
  obtain ⟨y,e3,hh⟩:=Wa hh
  obtain ⟨np,rfl⟩:=Xn (a:=yy) e3
  obtain ⟨hpos,rfl⟩:=Zb0 (a:=hd) e2
  obtain ⟨pos,rfl⟩:=Vbz e1
  replace h:=hh
  simp only [Bool.and_eq_true,Bool.not_eq_true',beq_iff_eq] at h
  obtain ⟨⟨⟨⟨⟨⟨⟨h1,h2⟩,h3⟩,rfl⟩,h5⟩,h6⟩,h7⟩,h8⟩:=h
  obtain ⟨CP,hm,htab⟩:=(show HdlAt X.K X.mg P tab from ok.1)
  obtain ⟨x1,x2,x3⟩:=C.st h1
  refine PS.wk (ps_try (tb:=fun EX'=>LS X.K EX' (wSs b)) (th:=LS X.K never (wSs hs)) (C.calm h1) x1 x2 x3 (by rw [C.N]; exact C.nd) (by rw [C.N]; exact V4 h2) (C.loc n h3).1 (C.loc n h3).2 (C.glb _ h5) hm (Zd h6).1
   (fun pn ξ EX' M Pn=>sSs b (sctx_b C M Pn) h7 ok.2.1) (fun ea=>sSs hs (sctx_h (ea:=ea) C) h8 (okSs.mono hs (fun r sp z=>Xbe z) (fun _ _ z=>z) ok.2.2))) fun D σ H q=>?_
  obtain ⟨ρ,θ,μ,Z,s,q,f⟩:=q
  refine ⟨ρ,θ,μ,_,s,q,⟨f.nx,f.rt,f.bk,f.ct,fun σ' H' ρ' θ' μ' cn ks ds s' g' z=>?_⟩⟩
  obtain ⟨z1,z3⟩:=z
  obtain ⟨C',k1,k2⟩:=htab cn (by simpa using z1)
  refine ⟨C',k1,fun dx hdx=>⟨C',rfl,k2,fun ea oe u he hcl hnc hdc=>?_⟩⟩
  have gn:Grow H' θ' μ' (upd H' ea (.frz oe u)) (θ' ++ [ea]) (μ' ++ [.exc cn ks ds]):=Grow.new s'.wok he
  have wn:WOk X.K (upd H' ea (.frz oe u)) (θ' ++ [ea]) (μ' ++ [.exc cn ks ds]):=s'.wok.new (c:=.exc cn ks ds) he (show CellOk X.K _ _ _ ea (.exc cn ks ds) from ⟨C',oe,u,k1,Yc,hcl,hnc,by rw [hdc]; exact hdx.mono gn⟩)
  have rl:Rp X.K (upd H' ea (.frz oe u)) (θ' ++ [ea]) (μ' ++ [.exc cn ks ds]) (.loc μ'.length) (.ref ea):=by
   unfold Rep
   exact ⟨ea,rfl,by rw [<- s'.wok.len]; simp⟩
  have f':=f.mono (g'.trans gn)
  exact ⟨_,_,_,_,(s'.grow wn gn).set rl i,z3,⟨fun _ _ _ _ _ _ _ z=>z.elim,f'.rt,fun _ _ _ _ _ _ _ z=>z.elim,fun _ _ _ _ _ _ _ z=>z.elim,fun _ _ _ _ _ _ _ _ _ _ z=>z.elim⟩⟩
theorem sSs:∀ (st:Ss) {X:Cx} {EX:L2.St->XK} {c:Ctx} {as:List Stmt},SCtx X EX c->mSs c st as=true->okSs (Yk X) (Wo X) st->PSs X as (LS X.K EX (wSs st))
 | .nil,X,EX,c,as,C,h,_=>by
  have:as=[]:=by simpa [mSs] using h
  subst this
  refine PSs.wk pss_nil fun D σ H q=>?_
  obtain ⟨ρ,θ,μ,Z,s,q,f⟩:=q
  exact f.nx σ H ρ θ μ s Grow.refl q
 | .cons s r,X,EX,c,as,C,h,ok=>by
  cases as with
  | nil=>simp [mSs] at h
  | cons a as =>
   simp only [mSs,Bool.and_eq_true] at h
   refine PSs.wk (Wb4 (sS s C h.1 ok.1) (sSs r C h.2 ok.2)) fun D σ H q=>?_
   obtain ⟨ρ,θ,μ,Z,sm,q,f⟩:=q
   refine ⟨ρ,θ,μ,_,sm,q,⟨fun σ' H' ρ' θ' μ' s' g' z=>⟨ρ',θ',μ',Z,s',z,f.mono g'⟩,f.rt,f.bk,f.ct,f.xc⟩⟩
end
end DW
end
section
set_option maxHeartbeats 2000000
namespace DW
open PySem PySem.Spec PyProof.Rows L2
structure Top where
 P:Program
 w:World
 K:PySem.W.Frag
 mg:Str->Option Value
 base:Heap
noncomputable def FnLev (T:Top) (k:Nat):Rf->DSp->Prop
 | .fn x,sp=>∃ (fa:Addr) (fd:FuncData) (ps:List Str),T.mg x=some (.ref fa)/\PySem.W.keepIn T.K (.ref fa)=true/\Binds T.K fd ps []/\FnOk T.P T.w T.K T.mg T.base (CXE T.P T.w) k fa fd ps (low T.K sp)
 | .mth c m,sp=>∃ (C fa:Addr) (fd:FuncData) (ps:List Str),PySem.W.nsIn T.K mainGlobals (Str.ofString c)=some (some (.ref C))/\Cls T.K C/\Meth T.K C (Str.ofString m) fa/\Binds T.K fd ps []/\FnOk T.P T.w T.K T.mg T.base (CXE T.P T.w) k fa fd ps (low T.K sp)
 | .mk c,sp=>∃ (C fa:Addr) (fd:FuncData) (ps:List Str) (j:Nat),PySem.W.nsIn T.K mainGlobals (Str.ofString c)=some (some (.ref C))/\T.mg (Str.ofString c)=some (.ref C)/\Mk T.K C fa/\Binds T.K fd ps []/\FnOk T.P T.w T.K T.mg T.base (CXE T.P T.w) j fa fd ps (low T.K sp)/\j + 1<=k
 | .fld c f,_=>∃ C:Addr,PySem.W.nsIn T.K mainGlobals (Str.ofString c)=some (some (.ref C))/\Cls T.K C/\Zan T.K C (Str.ofString f)
 | .fnX x sp,_=>∃ (fa:Addr) (fd:FuncData) (ps:List Str),T.mg x=some (.ref fa)/\PySem.W.keepIn T.K (.ref fa)=true/\Binds T.K fd ps []/\FnOk T.P T.w T.K T.mg T.base (CXE T.P T.w) k fa fd ps (lowX T.K sp)
 | .mthX c m sp,_=>∃ (C fa:Addr) (fd:FuncData) (ps:List Str),PySem.W.nsIn T.K mainGlobals (Str.ofString c)=some (some (.ref C))/\Cls T.K C/\Meth T.K C (Str.ofString m) fa/\Binds T.K fd ps []/\FnOk T.P T.w T.K T.mg T.base (CXE T.P T.w) k fa fd ps (lowX T.K sp)
 | .mkX c sp,_=>∃ (C fa:Addr) (fd:FuncData) (ps:List Str) (j:Nat),PySem.W.nsIn T.K mainGlobals (Str.ofString c)=some (some (.ref C))/\T.mg (Str.ofString c)=some (.ref C)/\Mk T.K C fa/\Binds T.K fd ps []/\FnOk T.P T.w T.K T.mg T.base (CXE T.P T.w) j fa fd ps (lowX T.K sp)/\j + 1<=k
 | .fnM x,sp=>∃ (fa:Addr) (fd:FuncData) (ps:List Str),T.mg x=some (.ref fa)/\PySem.W.keepIn T.K (.ref fa)=true/\Binds T.K fd ps []/\FnOk T.P T.w T.K T.mg T.base (CXE T.P T.w) 15 fa fd ps (low T.K sp)/\15<=k
 | .rsi c ks,_=>IniAt T.P T.w T.K T.mg T.base c ks/\2<=k
 | .efl f tab,_=>EflAt T.K f tab
 | .rse c,_=>RseAt T.K T.mg c
 | .lam,_=>False
 | .din x ks,_=>DinAt T.K T.mg x ks
 | .dsp x ks sp,_=>DspAt T.P T.w T.K T.mg T.base k x ks sp
 | .hdl P tab,_=>HdlAt T.K T.mg P tab
 | .isx tt ts tab,_=>IsxAt T.K T.mg tt ts tab
noncomputable abbrev FnTop (T:Top) (k:Nat):Rf->DSp->Prop:=FnLev T (k + 16)
noncomputable def Ze (T:Top) (x:Str) (d:D):Prop:=∃ (u:Value) (v:V),T.mg x=some u/\RelV v u/\∀ H θ μ,Rp T.K H θ μ d v
theorem FnLev.up {T:Top} {j k:Nat} {x:Rf} {sp:DSp} (h:FnLev T j x sp) (hk:j<=k):FnLev T k x sp:=by
 cases x with
 | fn x =>
  obtain ⟨fa,fd,ps,h1,h2,h3,h4⟩:=h
  exact ⟨fa,fd,ps,h1,h2,h3,h4.mono hk⟩
 | mth c m =>
  obtain ⟨C,fa,fd,ps,h0,h1,h2,h3,h4⟩:=h
  exact ⟨C,fa,fd,ps,h0,h1,h2,h3,h4.mono hk⟩
 | mk c =>
  obtain ⟨C,fa,fd,ps,i,h0,h1,h2,h3,h4,h5⟩:=h
  exact ⟨C,fa,fd,ps,i,h0,h1,h2,h3,h4,Nat.le_trans h5 hk⟩
 | fld c f=>exact h
 | fnX x sp =>
  obtain ⟨fa,fd,ps,h1,h2,h3,h4⟩:=h
  exact ⟨fa,fd,ps,h1,h2,h3,h4.mono hk⟩
 | mthX c m sp =>
  obtain ⟨C,fa,fd,ps,h0,h1,h2,h3,h4⟩:=h
  exact ⟨C,fa,fd,ps,h0,h1,h2,h3,h4.mono hk⟩
 | mkX c sp =>
  obtain ⟨C,fa,fd,ps,i,h0,h1,h2,h3,h4,h5⟩:=h
  exact ⟨C,fa,fd,ps,i,h0,h1,h2,h3,h4,Nat.le_trans h5 hk⟩
 | fnM x =>
  obtain ⟨fa,fd,ps,h1,h2,h3,h4,h5⟩:=h
  exact ⟨fa,fd,ps,h1,h2,h3,h4,Nat.le_trans h5 hk⟩
 | rsi c ks=>exact ⟨h.1,Nat.le_trans h.2 hk⟩
 | efl f tab=>exact h
 | rse c=>exact h
 | lam=>exact h.elim
 | din x ks=>exact h
 | dsp x ks sp =>
  obtain ⟨a,h1,h2,h3,h4⟩:=h
  refine ⟨a,h1,h2,h3,fun ds μ Q X q=>?_⟩
  obtain ⟨t,r,fa,fd,ps,sp',e1,e2,e3,e4,e5⟩:=h4 ds μ Q X q
  exact ⟨t,r,fa,fd,ps,sp',e1,e2,e3,e4.mono hk,e5⟩
 | hdl P tab=>exact h
 | isx tt ts tab=>exact h
theorem FnTop.up {T:Top} {j k:Nat} {x:Rf} {sp:DSp} (h:FnTop T j x sp) (hk:j<=k):FnTop T k x sp:=FnLev.up h (Nat.add_le_add_right hk 16)
theorem FnLev.mild {T:Top} {j k:Nat} {x:Str} {sp:DSp} (h:FnLev T j (.fn x) sp) (hj:j<=15:=by decide):FnTop T k (.fnM x) sp:=by
 obtain ⟨fa,fd,ps,h1,h2,h3,h4⟩:=h
 exact ⟨fa,fd,ps,h1,h2,h3,h4.mono hj,by omega⟩
theorem low_calm {K:PySem.W.Frag} {sp:DSpX} {vs:List V} {H:Hp} {Q:VK} {E:XK} (h:low K (calmSp sp) vs H Q E):lowX K sp vs H Q E:=by
 obtain ⟨ds,θ,μ,Qd,w,r,h,f⟩:=h
 exact ⟨ds,θ,μ,Qd,_,w,r,h,f,fun _ _ _ _ _ _ _ _ z=>z.elim⟩
theorem FnTop.calm {T:Top} {k:Nat} {x:Str} {sp:DSpX} (h:FnTop T k (.fnX x sp) spN):FnTop T k (.fn x) (calmSp sp):=by
 obtain ⟨fa,fd,ps,h1,h2,h3,h4⟩:=h
 exact ⟨fa,fd,ps,h1,h2,h3,h4.imp fun _ _ _ _ z=>low_calm z⟩
theorem Zbf {K:PySem.W.Frag} {H:Hp} {θ:List Addr} {μ:Mem} {ds:List D} {vs:List V} (N:List Str) (w:WOk K H θ μ) (r:Rps K H θ μ ds vs):Sim K (L2.start N vs) H (Zc N ds) θ μ:=by
 have hl:=r.length
 refine ⟨w,by simp [L2.start,Zc,hl],fun i d h=>?_⟩
 unfold Zc at h
 by_cases hi:i < ds.length
 ·rw [List.getElem?_append_left (by simpa using hi),List.getElem?_map] at h
  cases e:ds[i]? with
  | none=>rw [e] at h; cases h
  | some d' =>
   rw [e] at h; cases h
   obtain ⟨v,e1,e2⟩:=r.get e
   refine ⟨v,?_,e2⟩
   unfold L2.start
   rw [List.getElem?_append_left (by simpa using (hl ▸ hi)),List.getElem?_map,e1]; rfl
 ·rw [List.getElem?_append_right (by simpa using hi),List.getElem?_replicate] at h
  split at h <;> cases h
section
variable {T:Top} {k:Nat} {x qual:Str} {st:Stmt} {f:Addr} {fd:FuncData} {N ps blts:List Str} {i:Ss} {sp:DSp} {spx:DSpX}
theorem lev_ref {A:Around} {outer:List Env} {s:Shared} {H:Hp} {E:XK} {cdv:Value} {scope:Scope} (hr:Room k (A.deeper (envOfC qual scope s.heap.objs.size f cdv))) {y:Rf} {sp':DSp} (z:FnLev T k y sp'):Yk (cxOf (CXE T.P T.w) T.P T.w T.K T.mg T.base N qual scope f cdv A outer s H E) y sp':=by
 cases y with
 | fn y =>
  obtain ⟨fa,fd',ps',h1,h2,h3,h4⟩:=z
  exact ⟨fa,fd',ps',k,h1,h2,h3,h4,hr⟩
 | mth c m =>
  obtain ⟨C',fa,fd',ps',h0,h1,h2,h3,h4⟩:=z
  exact ⟨C',fa,fd',ps',k,h0,h1,h2,h3,h4,hr⟩
 | mk c =>
  obtain ⟨C',fa,fd',ps',j,h0,h1,h2,h3,h4,h5⟩:=z
  exact ⟨C',fa,fd',ps',j,h0,h1,h2,h3,h4,hr.mono h5⟩
 | fld c f=>exact z
 | fnX y sp =>
  obtain ⟨fa,fd',ps',h1,h2,h3,h4⟩:=z
  exact ⟨fa,fd',ps',k,h1,h2,h3,h4,hr⟩
 | mthX c m sp =>
  obtain ⟨C',fa,fd',ps',h0,h1,h2,h3,h4⟩:=z
  exact ⟨C',fa,fd',ps',k,h0,h1,h2,h3,h4,hr⟩
 | mkX c sp =>
  obtain ⟨C',fa,fd',ps',j,h0,h1,h2,h3,h4,h5⟩:=z
  exact ⟨C',fa,fd',ps',j,h0,h1,h2,h3,h4,hr.mono h5⟩
 | fnM y =>
  obtain ⟨fa,fd',ps',h1,h2,h3,h4,h5⟩:=z
  exact ⟨fa,fd',ps',h1,h2,h3,h4,hr.mono h5⟩
 | rsi c ks=>exact ⟨z.1,hr.mono z.2⟩
 | efl f tab=>exact z
 | rse c=>exact z
 | lam=>exact z.elim
 | din x ks=>exact z
 | dsp x ks sp=>exact ⟨k,hr,z⟩
 | hdl P tab=>exact z
 | isx tt ts tab=>exact z
theorem body_ok' {PL:Rf->DSp->Prop} {spL:Sp} {cm:Bool} (hcm:cm=true->16<=k) (F:Fun T.K x qual st f fd) (S:FnScope N ps (Xa st)) (hmt:mSs ⟨N,(Xa st).names,blts,cm,true⟩ i (Yb st)=true) (hblt:∀ y,blts.contains y=true->T.mg y=none)
  (ok:okSs PL (Ze T) i) (hPL:∀ (A:Around) (outer:List Env) (s:Shared) (H:Hp) (E:XK) (oc:Value) (od an:Option Addr) (osl:Array (Option Value)) (kV doc pm cdv ct:Value),T.K.lookup f=some ⟨oc,od,.func (PySem.W.fnOf x qual (Ym st) (Yb st) (Xa st) .none kV doc pm an cdv ct),osl⟩->Room k (A.deeper (envOfC qual (Xa st) s.heap.objs.size f cdv))->∀ y sp',PL y sp'->Yk (cxOf (CXE T.P T.w) T.P T.w T.K T.mg T.base N qual (Xa st) f cdv A outer s H E) y sp') (len:∀ vs H Q E,spL vs H Q E->vs.length=ps.length)
  (hrun:∀ vs H Q E,spL vs H Q E->∃ ds θ μ Z,WOk T.K H θ μ/\Rps T.K H θ μ ds vs/\wSs i Z (Zc N ds) μ/\FinS T.K (fun _=>E) H θ μ Z { nx:=fun _ H'=>Q .non H',rt:=Q }) :
  FnOk T.P T.w T.K T.mg T.base (CXE T.P T.w) (k + 1) f fd ps spL:=by
 obtain ⟨oc,od,kV,doc,pm,an,cdv,ct,osl,rfl,lk,hcd⟩:=F.ex
 refine fn_of lk hcd S len fun A outer s H vs Q E hr h=>?_
 obtain ⟨ds,θ,μ,Z,wok,r,hs,fin⟩:=hrun vs H Q E h
 have L:=Ybm (P:=T.P) (w:=T.w) (K:=T.K) (mg:=T.mg) (base:=T.base) (N:=N) (qual:=qual) (scope:=Xa st) (f:=f) (cd:=cdv) (A:=A) (outer:=outer) (s:=s) (H:=H) (E:=E)
 have C:SCtx (cxOf (CXE T.P T.w) T.P T.w T.K T.mg T.base N qual (Xa st) f cdv A outer s H E) (fun _=>E) ⟨N,(Xa st).names,blts,cm,true⟩:=by
  refine ⟨⟨rfl,S.nd,fun y hy=>?_,fun y hy=>?_,fun y hy=>?_,fun y hy=>?_,fun y hy=>hy,fun y hy=>hblt y hy,fun z=>Option.isNone_iff_eq_none.mpr (hr.hd (hcm z)),⟨k,hr⟩,PassesOwn.leaving⟩,meets_of L,fun _=>⟨E,L,rfl⟩,fun _=>⟨rfl,rfl,rfl⟩⟩
  ·unfold Ctx.vis at hy
   split at hy
   ·rename_i z; exact .inl z
   ·rename_i z; exact .inr (.inl z)
   ·rename_i z; exact .inr (.inr z)
   ·cases hy
  ·unfold Ctx.loc at hy
   split at hy
   ·rename_i z; exact ⟨.inl z,.inl rfl⟩
   ·rename_i z; exact ⟨.inr z,.inl rfl⟩
   ·cases hy
  ·have hy':(Xa st).names.lookup y=some .local:=by simpa [isLocal] using hy
   exact hy'
  ·unfold Ctx.glb at hy
   split at hy
   ·rename_i z; exact z
   ·cases hy
 refine ⟨LS T.K (fun _=>E) (wSs i),sSs i C hmt (okSs.mono i (fun y sp' z=>?_) (fun y d z=>z) ok),?_⟩
 ·exact hPL A outer s H E _ _ _ _ _ _ _ _ _ lk hr y sp' z
 ·exact ⟨Zc N ds,θ,μ,Z,Zbf N wok r,hs,fin⟩
theorem Wat {spL:Sp} {cm:Bool} (hcm:cm=true->16<=k) (F:Fun T.K x qual st f fd) (S:FnScope N ps (Xa st)) (hmt:mSs ⟨N,(Xa st).names,blts,cm,true⟩ i (Yb st)=true) (hblt:∀ y,blts.contains y=true->T.mg y=none)
  (ok:okSs (FnLev T k) (Ze T) i) (len:∀ vs H Q E,spL vs H Q E->vs.length=ps.length)
  (hrun:∀ vs H Q E,spL vs H Q E->∃ ds θ μ Z,WOk T.K H θ μ/\Rps T.K H θ μ ds vs/\wSs i Z (Zc N ds) μ/\FinS T.K (fun _=>E) H θ μ Z { nx:=fun _ H'=>Q .non H',rt:=Q }) :
  FnOk T.P T.w T.K T.mg T.base (CXE T.P T.w) (k + 1) f fd ps spL:=body_ok' hcm F S hmt hblt ok (fun A outer s H E _ _ _ _ _ _ _ _ _ _ hr y sp' z=>lev_ref hr z) len hrun
theorem fn_okF (F:Fun T.K x qual st f fd) (S:FnScope N ps (Xa st)) (hmt:mSs (Ctx.of N (Xa st).names blts) i (Yb st)=true) (hblt:∀ y,blts.contains y=true->T.mg y=none)
  (ok:okSs (FnTop T k) (Ze T) i) (har:∀ ds μ Q,sp ds μ Q->ds.length=ps.length) (hk:Keeps N i sp):FnOk T.P T.w T.K T.mg T.base (CXE T.P T.w) (k + 16 + 1) f fd ps (low T.K sp):=by
 refine Wat (fun _=>Nat.le_add_left 16 k) F S hmt hblt ok (fun vs H Q E h=>?_) fun vs H Q E h=>?_
 ·obtain ⟨ds,θ,μ,Qd,wok,r,hs,_⟩:=h
  rw [<- r.length]; exact har ds μ Qd hs
 ·obtain ⟨ds,θ,μ,Qd,wok,r,hs,fin⟩:=h
  refine ⟨ds,θ,μ,topZ Qd,wok,r,hk ds μ Qd hs,⟨fun σ' H' ρ' θ' μ' s' g z=>?_,fin,fun _ _ _ _ _ _ _ z=>z.elim,fun _ _ _ _ _ _ _ z=>z.elim,fun _ _ _ _ _ _ _ _ _ _ z=>z.elim⟩⟩
  exact fin .non .non H' θ' μ' s'.wok g W6 z
theorem fn_okFX (F:Fun T.K x qual st f fd) (S:FnScope N ps (Xa st)) (hmt:mSs (Ctx.of N (Xa st).names blts) i (Yb st)=true) (hblt:∀ y,blts.contains y=true->T.mg y=none)
  (ok:okSs (FnTop T k) (Ze T) i) (har:∀ ds μ Q X,spx ds μ Q X->ds.length=ps.length) (hk:Zby N i spx):FnOk T.P T.w T.K T.mg T.base (CXE T.P T.w) (k + 16 + 1) f fd ps (lowX T.K spx):=by
 refine Wat (fun _=>Nat.le_add_left 16 k) F S hmt hblt ok (fun vs H Q E h=>?_) fun vs H Q E h=>?_
 ·obtain ⟨ds,θ,μ,Qd,Xd,wok,r,hs,_⟩:=h
  rw [<- r.length]; exact har ds μ Qd Xd hs
 ·obtain ⟨ds,θ,μ,Qd,Xd,wok,r,hs,fin,finX⟩:=h
  refine ⟨ds,θ,μ,Zb1 Qd Xd,wok,r,hk ds μ Qd Xd hs,⟨fun σ' H' ρ' θ' μ' s' g z=>?_,fin,fun _ _ _ _ _ _ _ z=>z.elim,fun _ _ _ _ _ _ _ z=>z.elim,fun σ' H' ρ' θ' μ' c ks es s' g z=>finX H' θ' μ' c ks es s'.wok g z⟩⟩
  exact fin .non .non H' θ' μ' s'.wok g W6 z
theorem fn_ok {y:Str} (F:Fun T.K x qual st f fd) (S:FnScope N ps (Xa st)) (hmt:mSs (Ctx.of N (Xa st).names blts) i (Yb st)=true) (hblt:∀ y,blts.contains y=true->T.mg y=none)
  (ok:okSs (FnTop T k) (Ze T) i) (har:∀ ds μ Q,sp ds μ Q->ds.length=ps.length) (hk:Keeps N i sp) (hm:T.mg y=some (.ref f)) (hb:Binds T.K fd ps []):FnTop T (k + 1) (.fn y) sp :=
 ⟨f,fd,ps,hm,F.kp,hb,(fn_okF F S hmt hblt ok har hk).mono (by omega:k + 16 + 1<=k + 1 + 16)⟩
end
theorem V6 {K:PySem.W.Frag} {H:Hp} {θ:List Addr} {L:Addr->Prop}:∀ ns:List Int,Reps K H θ L (ns.map D.int) (ns.map V.int)
 | []=>Reps.nil
 | n :: ns=>Reps.cons (by unfold Rep; rfl) (V6 ns)
theorem Vbm {K:PySem.W.Frag} {H:Hp} {a:Addr} {ns:List Int} (hl:ns.length<=63) (hO:Only H) (hS:SqL K H a (ns.map V.int)):low K spLaw [.ref a] H (fun v _=>v = .bl true) fun _ _ _=>False:=by
 refine ⟨[.ro (ns.map D.int)],[],[],fun d _=>d = .bl true,⟨rfl,fun m n b h=>by simp at h,fun n b h=>by simp at h,fun n c b h=>by simp at h⟩,Reps.one ?_,⟨ns,rfl,hl,fun _=>rfl⟩,fun d v H' θ' μ' w g r q=>?_⟩
 ·unfold Rep
  refine ⟨a,ns.map V.int,rfl,?_,V6 ns⟩
  rcases hS with (h | ⟨o,h⟩) | h
  ·rcases hO a with z | ⟨o,xs,z⟩
   ·rw [h] at z; cases z
   ·rw [h] at z; cases z
  ·exact .inl ⟨o,h,fun ⟨n,c,e,_⟩=>by simp at e⟩
  ·exact .inr h
 ·subst q; exact Vh r
theorem law_walk {l:PySem.W.OpenLaw} {k:Nat} {q:Program} {loose:List Str} {XP:(Str->Option Value)->Heap->Prop} {YP:World->Heap->Prop} {d:DefRec} {K:Params->PySem.W.Frag} (hI:importsNone q=true) (hn:l.most=some 63) (hk:k<=200) (hdf:d.params.defaults=[])
  (hY:∀ (w:World) (h:Heap),YP w h->(K w.params).In h)
  (F:∀ (w:World) (mg:Str->Option Value) (fa:Addr) (h:Heap),(K w.params).In h->h.Ns mainGlobals mg->mg d.name=some (.ref fa) ->
   ∃ fd:FuncData,(∀ (s:Shared) (u:Value),BindsTo s fd ⟨[u],[]⟩ [("script",u)])/\∀ base:Heap,(K w.params).In base->base.Ns mainGlobals mg->FnOk l.prog w (K w.params) mg base (CXE l.prog w) k fa fd ["script"] (low (K w.params) spLaw)) :
  PySem.W.WalkO q loose XP YP l.row.toRowW d [] (fun f vs=>PySem.call f vs):=by
 have hr:Room 200 callerA:=⟨fun _=>rfl,by decide,by decide,rfl⟩
 exact L2.walk_of (n:=63) (k:=k) (x:="script") (CX:=fun w=>CXE l.prog w) (sp:=fun w=>low (K w.params) spLaw) hI hn (by decide) hdf (hr.mono hk) hY F (fun _ _ a ns hl hO hS=>Vbm hl hO hS) fun w _ _ _ _ z=>by
  obtain ⟨_,_,_,_,_,_,_,_,_,q⟩:=z
  exact q
section
variable {T:Top} {h:Heap} {k:Nat} {x:Str} {ks:List (List Nat)} {spx:DSpX}
end
section
variable {α:Type} {P:List α->Prop}
theorem len1 (h:∀ a,P [a]):∀ us:List α,us.length=1->P us
 | [a],_=>h a
theorem len2 (h:∀ a b,P [a,b]):∀ us:List α,us.length=2->P us
 | [a,b],_=>h a b
theorem len3 (h:∀ a b c,P [a,b,c]):∀ us:List α,us.length=3->P us
 | [a,b,c],_=>h a b c
end
noncomputable def DefAt (K:PySem.W.Frag) (x:Str) (st:Stmt):Prop:=∃ (f:Addr) (fd:FuncData),PySem.W.nsIn K mainGlobals x=some (some (.ref f))/\Fun K x x st f fd
theorem defAt_mk {K:PySem.W.Frag} {x:Str} {st:Stmt} {f:Addr} {oc:Value} {od an:Option Addr} {osl:Array (Option Value)} {kV doc pm cdv ct:Value} (a:PySem.W.nsIn K mainGlobals x=some (some (.ref f)))
  (l:K.lookup f=some ⟨oc,od,.func (PySem.W.fnOf x x (Ym st) (Yb st) (Xa st) .none kV doc pm an cdv ct),osl⟩) (c:PySem.W.codeIn K cdv x=true) (k:PySem.W.keepIn K (.ref f)=true):DefAt K x st:=⟨f,_,a,fun_mk l c k⟩
noncomputable def FreeAt (K:PySem.W.Frag):List Str->Prop
 | []=>True
 | x :: xs=>PySem.W.nsIn K mainGlobals x=some none/\FreeAt K xs
theorem Wbr {K:PySem.W.Frag} {h:Heap} {mg:Str->Option Value} (X:K.In h) (G:h.Ns mainGlobals mg):∀ {xs:List Str},FreeAt K xs->∀ y,xs.contains y=true->mg y=none
 | [],_,y,h=>by simp at h
 | x :: xs,F,y,h=>by
  by_cases e:y=x
  ·subst e; exact PySem.W.mg_none_of X G F.1
  ·exact Wbr X G F.2 y (by simpa [e] using h)
theorem X3 {T:Top} {h:Heap} {k:Nat} {x:Str} {st:Stmt} {N ps blts:List Str} {i:Ss} {sp:DSp} (D:DefAt T.K x st) (X:T.K.In h) (G:h.Ns mainGlobals T.mg) (S:FnScope N ps (Xa st)) (hmt:mSs (Ctx.of N (Xa st).names blts) i (Yb st)=true) (hblt:∀ y,blts.contains y=true->T.mg y=none)
  (hbd:∀ (kV doc pm:Value) (an:Option Addr) (cdv ct:Value) (us:List Value),us.length=ps.length->bindArgs (PySem.W.fnOf x x (Ym st) (Yb st) (Xa st) .none kV doc pm an cdv ct) ⟨us,[]⟩=pure (ps.zip us))
  (har:∀ ds μ Q,sp ds μ Q->ds.length=ps.length) (hk:Keeps N i sp) (ok:okSs (FnTop T k) (Ze T) i):FnTop T (k + 1) (.fn x) sp:=by
 obtain ⟨f,fd,a,F⟩:=D
 exact fn_ok F S hmt hblt ok har hk (PySem.W.mg_of X G a) (F.binds hbd)
theorem fn_atX {T:Top} {h:Heap} {k:Nat} {x:Str} {st:Stmt} {N ps blts:List Str} {i:Ss} {sp:DSpX} (D:DefAt T.K x st) (X:T.K.In h) (G:h.Ns mainGlobals T.mg) (S:FnScope N ps (Xa st)) (hmt:mSs (Ctx.of N (Xa st).names blts) i (Yb st)=true) (hblt:∀ y,blts.contains y=true->T.mg y=none)
  (hbd:∀ (kV doc pm:Value) (an:Option Addr) (cdv ct:Value) (us:List Value),us.length=ps.length->bindArgs (PySem.W.fnOf x x (Ym st) (Yb st) (Xa st) .none kV doc pm an cdv ct) ⟨us,[]⟩=pure (ps.zip us))
  (har:∀ ds μ Q X,sp ds μ Q X->ds.length=ps.length) (hk:Zby N i sp) (ok:okSs (FnTop T k) (Ze T) i):FnTop T (k + 1) (.fnX x sp) spN:=by
 obtain ⟨f,fd,a,F⟩:=D
 exact ⟨f,fd,ps,PySem.W.mg_of X G a,F.kp,F.binds hbd,(fn_okFX F S hmt hblt ok har hk).mono (by omega:k + 16 + 1<=k + 1 + 16)⟩
theorem fnM_at {T:Top} {h:Heap} {k:Nat} {x:Str} {st:Stmt} {N ps blts:List Str} {i:Ss} {sp:DSp} (D:DefAt T.K x st) (X:T.K.In h) (G:h.Ns mainGlobals T.mg) (S:FnScope N ps (Xa st)) (hmt:mSs ⟨N,(Xa st).names,blts,false,true⟩ i (Yb st)=true) (hblt:∀ y,blts.contains y=true->T.mg y=none)
  (hbd:∀ (kV doc pm:Value) (an:Option Addr) (cdv ct:Value) (us:List Value),us.length=ps.length->bindArgs (PySem.W.fnOf x x (Ym st) (Yb st) (Xa st) .none kV doc pm an cdv ct) ⟨us,[]⟩=pure (ps.zip us))
  (har:∀ ds μ Q,sp ds μ Q->ds.length=ps.length) (hk:Keeps N i sp) (ok:okSs (FnLev T k) (Ze T) i):FnLev T (k + 1) (.fn x) sp:=by
 obtain ⟨f,fd,a,F⟩:=D
 refine ⟨f,fd,ps,PySem.W.mg_of X G a,F.kp,F.binds hbd,Wat (fun z=>(Bool.false_ne_true z).elim) F S hmt hblt ok (fun vs H Q E h=>?_) fun vs H Q E h=>?_⟩
 ·obtain ⟨ds,θ,μ,Qd,wok,r,hs,_⟩:=h
  rw [<- r.length]; exact har ds μ Qd hs
 ·obtain ⟨ds,θ,μ,Qd,wok,r,hs,fin⟩:=h
  refine ⟨ds,θ,μ,topZ Qd,wok,r,hk ds μ Qd hs,⟨fun σ' H' ρ' θ' μ' s' g z=>?_,fin,fun _ _ _ _ _ _ _ z=>z.elim,fun _ _ _ _ _ _ _ z=>z.elim,fun _ _ _ _ _ _ _ _ _ _ z=>z.elim⟩⟩
  exact fin .non .non H' θ' μ' s'.wok g W6 z
noncomputable def NoAt (K:PySem.W.Frag) (c f:String):Prop:=∃ C:Addr,PySem.W.nsIn K mainGlobals (Str.ofString c)=some (some (.ref C))/\PySem.W.findIn K (.ref C) (Str.ofString f)=some none
section
variable {T:Top} {k:Nat} {c m:String} {q:Str} {st:Stmt} {N ps blts:List Str} {i:Ss} {sp:DSp} {spx:DSpX}
end
noncomputable def RseK (K:PySem.W.Frag) (c:String):Prop:=∃ C,PySem.W.nsIn K mainGlobals (Str.ofString c)=some (some (.ref C))/\PySem.W.excIn K C bmVE "ValueError.__new__" = true
theorem rseK_mk {K:PySem.W.Frag} {c:String} {C:Addr} (a:PySem.W.nsIn K mainGlobals (Str.ofString c)=some (some (.ref C))) (b:PySem.W.excIn K C bmVE "ValueError.__new__" = true):RseK K c:=⟨C,a,b⟩
noncomputable def XCls (K:PySem.W.Frag) (c:String):Prop:=∃ C,PySem.W.nsIn K mainGlobals (Str.ofString c)=some (some (.ref C))/\ExcCls K C
theorem xCls_mk {K:PySem.W.Frag} {c:String} {C:Addr} {cd:ClassData} (a:PySem.W.nsIn K mainGlobals (Str.ofString c)=some (some (.ref C))) (b:PySem.W.findIn K (.ref C) "__getattribute__" = some (some (.builtin "BaseException.__getattribute__"))) (d:PySem.W.findIn K (.ref C) "__getattr__" = some none)
  (e:PySem.W.mroIn K C (.type "BaseException")=some true) (f:PySem.W.mroIn K C (.type "object")=some true) (g:PySem.W.findIn K (.ref C) "__class__" = some (some (.builtin "object.__class__"))) (h:PySem.W.specialIn K (.builtin "object.__class__") "__get__" = some (some (.builtin "getset_descriptor.__get__")))
  (i:PySem.W.takesIn K (.builtin "object.__class__")=some true) (j:PySem.W.clsIn K C=some cd):XCls K c:=⟨C,a,⟨b,d,e,f,g,h,i,by rw [j]; rfl⟩⟩
noncomputable def HdlK (K:PySem.W.Frag) (P:String) (tab:List String):Prop:=∃ CP,PySem.W.nsIn K mainGlobals (Str.ofString P)=some (some (.ref CP))/\∀ c∈tab,∃ C,PySem.W.nsIn K mainGlobals (Str.ofString c)=some (some (.ref C))/\PySem.W.exmOne K (.ref C) (.ref CP)=some true
noncomputable def ClsValsK (K:PySem.W.Frag):List String->List V->Prop
 | [],[]=>True
 | t :: ts,v :: vs=>((∃ C,v = .ref C/\PySem.W.nsIn K mainGlobals (Str.ofString t)=some (some (.ref C)))∨(v = .ty t/\PySem.W.nsIn K mainGlobals (Str.ofString t)=some none/\bootBuiltins (Str.ofString t)=some (.type t)/\Str.ofString t≠"__name__"))/\ClsValsK K ts vs
 | _,_=>False
noncomputable def IsxK (K:PySem.W.Frag) (tt:Bool) (ts:List String) (tab:List (String×Bool)):Prop:=∃ vs,ClsValsK K ts vs/\∀ p∈tab,∃ C,PySem.W.nsIn K mainGlobals (Str.ofString p.1)=some (some (.ref C))/\ExcCls K C /\
 (if tt=true then PySem.W.kitAny K (.ref C) (vs.map clsU)=some p.2 else ∃ v,vs=[v]/\PySem.W.kitOne K (.ref C) (clsU v)=some p.2)
section
variable {K:PySem.W.Frag} {h:Heap} {mg:Str->Option Value} (X:K.In h) (G:h.Ns mainGlobals mg)
include X G
theorem RseK.at {c:String} (r:RseK K c):RseAt K mg c:=by
 obtain ⟨C,h1,h2⟩:=r
 exact ⟨C,h1,PySem.W.mg_of X G h1,h2⟩
theorem HdlK.at {P:String} {tab:List String} (r:HdlK K P tab):HdlAt K mg P tab:=by
 obtain ⟨C,h1,h2⟩:=r
 exact ⟨C,PySem.W.mg_of X G h1,h2⟩
theorem ClsValsK.at:∀ {ts:List String} {vs:List V},ClsValsK K ts vs->Vo mg ts vs
 | [],[],_=>trivial
 | [],_ :: _,r=>r.elim
 | _ :: _,[],r=>r.elim
 | t :: ts,v :: vs,r=>by
  refine ⟨?_,ClsValsK.at r.2⟩
  rcases r.1 with ⟨C,e,h1⟩ | ⟨e,h1,h2,h3⟩
  ·exact .inl ⟨C,e,PySem.W.mg_of X G h1⟩
  ·exact .inr ⟨e,PySem.W.mg_none_of X G h1,h2,h3⟩
theorem IsxK.at {tt:Bool} {ts:List String} {tab:List (String×Bool)} (r:IsxK K tt ts tab):IsxAt K mg tt ts tab:=by
 obtain ⟨vs,h1,h2⟩:=r
 exact ⟨vs,ClsValsK.at X G h1,h2⟩
end
noncomputable def EflK (K:PySem.W.Frag) (f:String):List String->Prop
 | []=>True
 | c :: cs=>(XCls K c/\NoAt K c f/\∃ C,PySem.W.nsIn K mainGlobals (Str.ofString c)=some (some (.ref C))/\PySem.W.hasDictIn K C=true)/\EflK K f cs
theorem EflK.at {K:PySem.W.Frag} {f:String}:∀ {tab:List String},EflK K f tab->EflAt K f tab
 | [],_,c,m=>by simp at m
 | x :: tab,h,c,m=>by
  rcases List.mem_cons.mp m with rfl | m
  ·obtain ⟨⟨C,a1,a2⟩,⟨C',b1,b2⟩,C'',c1,c2⟩:=h.1
   rw [a1] at b1 c1; cases b1; cases c1
   exact ⟨C,a1,a2,b2,c2⟩
  ·exact EflK.at h.2 c m
end DW
end
section
namespace DW
open PySem
noncomputable def Xf (μ:Mem) (n:Nat):Prop:=∃ b:Int,μ[n]? = some (.lst [.int b])
noncomputable def bx (μ:Mem) (n:Nat) (b:Int):Mem:=μ.set n (.lst [.int b])
noncomputable def spL_box:DSp:=fun ds μ Q=>match ds with
 | [.ro xs,.int k]=>∃ ns:List Int,xs=ns.map D.int/\ns.length < 1000/\0<=k/\∀ b,Q (.loc μ.length) (μ ++ [.lst [.int b]])
 | _=>False
noncomputable def spL_take:DSp:=fun ds μ Q=>match ds with
 | [.loc n,.int m]=>Xf μ n/\0 < m/\m < 2 ^ 500/\∀ d b,0<=d->d < m->Q (.int d) (bx μ n b)
 | _=>False
noncomputable def nL_take:List Str:=["box","many","left","digit"]
noncomputable def iL_take:Ss:=(.cons (.setT [2,3] (.blt "divmod" (.cons (.idx (.var 0) (.cst (.int 0))) (.cons (.var 1) .nil)))) (.cons (.setIx (.var 0) (.cst (.int 0)) (.var 2)) (.cons (.ret (.var 3)) .nil)))
theorem Wf {μ:Mem} {n:Nat} {b:Int} (h:Xf μ n):Xf (bx μ n b) n:=by
 obtain ⟨c,h⟩:=h
 exact ⟨b,by unfold bx; rw [List.getElem?_set_self (List.getElem?_eq_some_iff.mp h).1]⟩
theorem Xbp {μ:Mem} {b:Int}:Xf (μ ++ [.lst [.int b]]) μ.length:=⟨b,by simp⟩
theorem kL_take:Keeps nL_take iL_take spL_take:=by
 intro ds μ Q h
 unfold spL_take at h
 split at h
 ·obtain ⟨⟨b,hb⟩,h0,hm,h⟩:=h
  rename_i n m
  have hc:Xba m:=⟨h0,hm⟩
  simp [iL_take,nL_take,Zc,topZ,wSs,wS,wT,wE,wEs,wIdx,Wb,hb,ixD,wBlt,hc,Yo,Zn]
  exact h _ _ (Int.emod_nonneg _ (by omega)) (Int.emod_lt_of_pos _ h0)
 ·exact h.elim
end DW
end
section
namespace DW
open PySem
noncomputable def ga (r:List Itm) (p:Nat):Nat:=match r[p]? with | some x=>((r.take p).filter fun y=>lt2 x y).length | none=>0
noncomputable def gas (r:List Itm):List Int:=(List.range r.length).map fun p=>(ga r p:Int)
noncomputable def mx:List Int->Int
 | []=>0
 | i :: is=>is.foldl max i
noncomputable def dicB (μ:Mem) (n:Nat):Bool:=match μ[n]? with | some (.dic _ _)=>true | _=>false
theorem dic_ty {μ:Mem} {n:Nat} (h:dicB μ n=true):tyOf μ (.loc n)=some "dict":=by
 unfold dicB at h
 simp only [tyOf]
 split at h
 ·rename_i e; rw [e]
 ·cases h
noncomputable def spL_whole:DSp:=fun ds μ Q=>match ds with
 | [.int _]=>Q (.bl true) μ
 | [.loc n]=>dicB μ n=true/\Q (.bl false) μ
 | [.ro _]=>False
 | [.fdc _ _]=>False
 | [_]=>Q (.bl false) μ
 | _=>False
noncomputable def nL_whole:List Str:=["thing"]
noncomputable def iL_whole:Ss:=(.cons (.ret (.and (.isin (.var 0) "int") (.not (.isin (.var 0) "bool")))) .nil)
theorem kL_whole:Keeps nL_whole iL_whole spL_whole:=by
 intro ds μ Q h
 unfold spL_whole at h
 split at h
 ·simpa [iL_whole,nL_whole,Zc,topZ,wSs,wS,wE,Yn,tyOf,isTy,wBl] using h
 ·simpa [iL_whole,nL_whole,Zc,topZ,wSs,wS,wE,Yn,dic_ty h.1,isTy,wBl] using h.2
 ·exact h.elim
 ·exact h.elim
 ·rename_i d h1 h2 h3 h4
  cases d with
  | int i=>exact absurd rfl (h1 i)
  | loc i=>exact absurd rfl (h2 i)
  | ro i=>exact absurd rfl (h3 i)
  | fdc i j=>exact absurd rfl (h4 i j)
  | _=>simpa [iL_whole,nL_whole,Zc,topZ,wSs,wS,wE,Yn,tyOf,isTy,wBl] using h
 ·exact h.elim
theorem gas_nn (r:List Itm):∀ i∈gas r,0<=i:=by
 intro i hi
 simp [gas] at hi
 obtain ⟨p,_,rfl⟩:=hi
 omega
end DW
end
section
namespace DW
end DW
end
section
namespace DW
noncomputable def cnt (A:List Itm) (x:Itm):Nat:=(A.filter (lt2 x)).length
noncomputable def gf:List Itm->List Itm->List Int
 | _,[]=>[]
 | A,x :: l=>(cnt A x:Int) :: gf (A ++ [x]) l
theorem gf_eq:∀ (l A:List Itm),gf A l=(List.range l.length).map fun p=>(ga (A ++ l) (A.length + p):Int)
 | [],A=>rfl
 | x :: l,A=>by
  have h:=gf_eq l (A ++ [x])
  rw [gf,h,List.length_cons,List.range_succ_eq_map,List.map_cons,List.map_map]
  congr 1
  ·simp [ga,cnt]
  ·refine List.map_congr_left fun p _=>?_
   simp [Nat.add_assoc,Nat.add_comm 1 p]
theorem gas_gf (r:List Itm):gas r=gf [] r:=by
 rw [gf_eq]
 simp [gas]
noncomputable def mxr (l:List Int):Int:=l.foldr max 0
theorem Yay:∀ l:List Int,0<=mxr l
 | []=>Int.le_refl _
 | i :: l=>by have:=Yay l; show 0<=max i (mxr l); omega
theorem X7:∀ a b:List Int,mxr (a ++ b)=max (mxr a) (mxr b)
 | [],b=>by have:=Yay b; show mxr b=max 0 (mxr b); omega
 | i :: a,b=>by
  show max i (mxr (a ++ b))=max (max i (mxr a)) (mxr b)
  rw [X7 a b]; omega
theorem Va1:∀ (l:List Int) (i:Int),0<=i->l.foldl max i=max i (mxr l)
 | [],i,h=>by show i=max i 0; omega
 | j :: l,i,h=>by
  rw [List.foldl_cons,Va1 l (max i j) (by omega)]
  show max (max i j) (mxr l)=max i (max j (mxr l)); omega
theorem mx_eq (l:List Int) (h:∀ i∈l,0<=i):mx l=mxr l:=by
 cases l with
 | nil=>rfl
 | cons i l=>exact Va1 l i (h i (by simp))
theorem mx_gas (r:List Itm):mx (gas r)=mxr (gf [] r):=by rw [mx_eq _ (gas_nn r),gas_gf]
theorem cnt_perm {A B:List Itm} (p:A.Perm B) (x:Itm):cnt A x=cnt B x:=(p.filter _).length_eq
theorem Wa2 (A:List Itm) (x y:Itm):cnt (A ++ [x]) y=cnt A y + if lt2 y x=true then 1 else 0:=by
 unfold cnt
 rw [List.filter_append,List.length_append]
 by_cases h:lt2 y x=true
 ·simp [h]
 ·simp [h]
theorem Zbr:∀ (l:List Itm) {A B:List Itm},A.Perm B->gf A l=gf B l
 | [],A,B,_=>rfl
 | x :: l,A,B,p=>by rw [gf,gf,cnt_perm p,Zbr l (p.append_right [x])]
theorem Xaj:∀ (B A C:List Itm),gf A (B ++ C)=gf A B ++ gf (A ++ B) C
 | [],A,C=>by simp [gf]
 | x :: B,A,C=>by simp [gf,Xaj B (A ++ [x]) C]
theorem cnt_le {x y:Itm} (h:lt2 x y=true):∀ A:List Itm,cnt A y<=cnt A x
 | []=>Nat.le_refl _
 | z :: A=>by
  have ih:=cnt_le h A
  unfold cnt at ih ⊢
  by_cases q:lt2 y z=true
  ·have q2:lt2 x z=true:=by
    cases q3:lt2 x z with
    | true=>rfl
    | false =>
     have:=Wbl z x y q3 (Zaz _ _ h)
     rw [q] at this; cases this
   rw [List.filter_cons_of_pos q,List.filter_cons_of_pos q2,List.length_cons,List.length_cons]
   omega
  ·rw [List.filter_cons_of_neg q]
   by_cases q2:lt2 x z=true
   ·rw [List.filter_cons_of_pos q2,List.length_cons]; omega
   ·rw [List.filter_cons_of_neg q2]; exact ih
theorem exchanged (A B:List Itm) (x y:Itm) (h:lt2 x y=true) :
  (gas (A ++ y :: x :: B)).sum=(gas (A ++ x :: y :: B)).sum + 1/\mx (gas (A ++ x :: y :: B))<=mx (gas (A ++ y :: x :: B))/\mx (gas (A ++ y :: x :: B)) - 1<=mx (gas (A ++ x :: y :: B))/\1<=mx (gas (A ++ y :: x :: B))/\1<=(gas (A ++ y :: x :: B)).sum:=by
 have e:gf (A ++ [y] ++ [x]) B=gf (A ++ [x] ++ [y]) B:=Zbr B (by
  simp only [List.append_assoc]
  exact List.Perm.append_left A (List.Perm.swap x y []))
 have c1:cnt (A ++ [y]) x=cnt A x + 1:=by rw [Wa2,if_pos h]
 have c2:cnt (A ++ [x]) y=cnt A y:=by rw [Wa2,if_neg (by rw [Zaz _ _ h]; simp)]; rfl
 have c3:=cnt_le h A
 have nn:∀ l A,(0:Int)<=(gf A l).sum:=by
  intro l
  induction l with
  | nil=>intro A; exact Int.le_refl _
  | cons z l ih=>intro A; have:=ih (A ++ [z]); rw [gf,List.sum_cons]; omega
 have n1:=nn A []
 have n2:=nn B (A ++ [x] ++ [y])
 rw [mx_gas,mx_gas]
 simp only [gas_gf,Xaj,gf,List.nil_append,c1,c2,e,List.sum_append,List.sum_cons,X7]
 have m1:=Yay (gf [] A)
 have m2:=Yay (gf (A ++ [x] ++ [y]) B)
 simp only [mxr,List.foldr_cons] at m1 m2 ⊢
 omega
end DW
end
section
namespace DW
open PySem
end DW
end
section
namespace DW.K03
open PySem DW
mutual
theorem Ya2:∀ (n:Nat) (d:D),flat n d=true->eqD d d=true
 | n,.non,_=>rfl
 | n,.bl b,_=>by simp [eqD]
 | n,.int i,_=>by simp [eqD]
 | n,.str x,_=>by simp [eqD]
 | 0,.tup ds,h=>by simp [flat] at h
 | n + 1,.tup ds,h=>by rw [eqD]; exact W3 n ds (by simpa [flat] using h)
 | 0,.lst ds,h=>by simp [flat] at h
 | n + 1,.lst ds,h=>by rw [eqD]; exact W3 n ds (by simpa [flat] using h)
 | n,.ro ds,h=>by simp [flat] at h
 | n,.loc ds,h=>by simp [flat] at h
 | n,.dic ks ds,h=>by simp [flat] at h
theorem W3:∀ (n:Nat) (ds:List D),flats n ds=true->eqDs ds ds=true
 | n,[],_=>rfl
 | n,d :: ds,h=>by
  simp only [flats,Bool.and_eq_true] at h
  simp [eqDs,Ya2 n d h.1,W3 n ds h.2]
end
end DW.K03
end
section
namespace DW
open PySem DW.K03
end DW
end
section
namespace DW
open PySem
noncomputable def sp_is_whole:DSp:=fun ds μ Q=>match ds with
 | [.int _]=>Q (.bl true) μ
 | [.loc n]=>dicB μ n=true/\Q (.bl false) μ
 | [.ro _]=>False
 | [.fdc _ _]=>False
 | [_]=>Q (.bl false) μ
 | _=>False
noncomputable def n_is_whole:List Str:=["thing"]
noncomputable def i_is_whole:Ss:=(.cons (.ret (.and (.isin (.var 0) "int") (.not (.isin (.var 0) "bool")))) .nil)
theorem k_is_whole:Keeps n_is_whole i_is_whole sp_is_whole:=by
 have e:sp_is_whole=spL_whole:=rfl
 rw [e]; exact kL_whole
end DW
end
section
namespace DW
open PySem DW.K03
end DW
end
section
namespace DW
open PySem
end DW
end
section
namespace DW
open PySem
noncomputable def nL_box2:List Str:=["script","k","here","number","j","part"]
noncomputable def iL_box2:Ss:=(.cons (.set 2 (.bin .Add (.bin .Mult (.cst (.int 7919)) (.var 1)) (.cst (.int 13)))) (.cons (.ite (.cmp .Lt (.var 1) (.blt "len" (.cons (.var 0) .nil))) (.cons (.set 2 (.idx (.var 0) (.var 1))) .nil) .nil) (.cons (.ite (.cmp .Eq (.bin .Mod (.var 2) (.cst (.int 2))) (.cst (.int 0))) (.cons (.ret (.lst true (.cons (.bin .FloorDiv (.var 2) (.cst (.int 2))) .nil))) .nil) .nil) (.cons (.set 3 (.cst (.int 0))) (.cons (.for_ [4] false (.rng (.cons (.cst (.int 16)) .nil)) (.cons (.set 5 (.bin .Mod (.bin .Add (.bin .Add (.bin .Mult (.bin .Mod (.var 2) (.cst (.int 2147483647))) (.cst (.int 48271))) (.bin .Mult (.cst (.int 7919)) (.var 4))) (.cst (.int 1))) (.cst (.int 2147483647)))) (.cons (.set 5 (.bin .Mod (.bin .Mult (.var 5) (.var 5)) (.cst (.int 2147483629)))) (.cons (.set 3 (.bin .Add (.bin .Mult (.var 3) (.cst (.int 2147483647))) (.bin .Mod (.bin .Mult (.var 5) (.bin .Add (.var 5) (.cst (.int 13)))) (.cst (.int 2147483647))))) .nil)))) (.cons (.ret (.lst true (.cons (.var 3) .nil))) .nil))))))
theorem Zal (ns:List Int) (k c:Int) (μ:Mem) (Q:QD) (h:∀ b,Q (.loc μ.length) (μ ++ [.lst [.int b]])) :
  wSs (.cons (.ite (.cmp .Eq (.bin .Mod (.var 2) (.cst (.int 2))) (.cst (.int 0))) (.cons (.ret (.lst true (.cons (.bin .FloorDiv (.var 2) (.cst (.int 2))) .nil))) .nil) .nil) (.cons (.set 3 (.cst (.int 0))) (.cons (.for_ [4] false (.rng (.cons (.cst (.int 16)) .nil)) (.cons (.set 5 (.bin .Mod (.bin .Add (.bin .Add (.bin .Mult (.bin .Mod (.var 2) (.cst (.int 2147483647))) (.cst (.int 48271))) (.bin .Mult (.cst (.int 7919)) (.var 4))) (.cst (.int 1))) (.cst (.int 2147483647)))) (.cons (.set 5 (.bin .Mod (.bin .Mult (.var 5) (.var 5)) (.cst (.int 2147483629)))) (.cons (.set 3 (.bin .Add (.bin .Mult (.var 3) (.cst (.int 2147483647))) (.bin .Mod (.bin .Mult (.var 5) (.bin .Add (.var 5) (.cst (.int 13)))) (.cst (.int 2147483647))))) .nil)))) (.cons (.ret (.lst true (.cons (.var 3) .nil))) .nil))))
   (topZ Q) [some (.ro (ns.map D.int)),some (.int k),some (.int c),none,none,none] μ:=by
 simp [wSs,wS,wT,wE,wEs,wI,topZ,wBin,wCmp,flat,wBl]
 by_cases hc:eqD (.int (c % 2)) (.int 0)=true
 ·simp [hc,Xba,lim,newL,h]
 ·simp only [hc,if_neg,Bool.false_eq_true,not_false_eq_true,wRng,Xv]
  refine ⟨by decide,by decide,?_⟩
  refine Xg (fun ds ρ μ'=>μ'=μ/\(∀ d∈ds,∃ i:Int,d = .int i/\0<=i/\i < 1000)/\∃ v w x,ρ=[some (.ro (ns.map D.int)),some (.int k),some (.int c),some (.int v),w,x]) ?_ ?_ _ _ _ ⟨rfl,?_,0,none,none,rfl⟩
  ·rintro d ds ρ μ' N hN ⟨rfl,hd,v,w,x,rfl⟩
   obtain ⟨i,rfl,i0,i1⟩:=hd d (by simp)
   refine ⟨trivial,?_⟩
   simp [Yo,wBin]
   refine ⟨.inr (by omega),.inl (by omega),?_⟩
   generalize (c % 2147483647 * 48271 + 7919 * i + 1)=z
   have hz0:0<=z % 2147483647:=by omega
   have hz1:z % 2147483647 < 2147483647:=by omega
   refine ⟨.inl (by omega),?_⟩
   generalize z % 2147483647 * (z % 2147483647)=y
   have hy0:0<=y % 2147483629:=by omega
   have hy1:y % 2147483629 < 2147483629:=by omega
   refine ⟨.inr (by omega),.inl (by omega),?_⟩
   exact hN _ _ ⟨rfl,fun d q=>hd d (by simp [q]),_,_,_,rfl⟩
  ·rintro ρ μ' ⟨rfl,-,v,w,x,rfl⟩
   refine ⟨trivial,?_⟩
   simp [lim,newL]
   exact h _
  ·intro d hd
   simp only [Zj,List.mem_map,List.mem_range] at hd
   obtain ⟨j,hj,rfl⟩:=hd
   exact ⟨_,rfl,by omega,by omega⟩
theorem kL_box2:Keeps nL_box2 iL_box2 spL_box:=by
 intro ds μ Q h
 unfold spL_box at h
 split at h
 ·obtain ⟨ns,rfl,hl,hk,h⟩:=h
  rename_i k
  unfold iL_box2
  rw [wSs,wS]
  simp only [nL_box2,Zc,wE,wBin,List.map_cons,List.map_nil,List.length_cons,List.length_nil,List.cons_append,List.nil_append,List.getElem?_cons_zero,List.getElem?_cons_succ,List.replicate,List.set_cons_succ,List.set_cons_zero]
  refine ⟨.inl (by omega),?_⟩
  rw [wSs,wS]
  simp only [wT,wE,wEs,wBlt,lenOf,Wb,Option.map_some,List.getElem?_cons_zero,List.getElem?_cons_succ,wCmp,ltD,wBl,List.length_map]
  by_cases c:k < (ns.length:Int)
  ·simp only [c,decide_true,if_true]
   have e:ixD (ns.map D.int).length k=some k.toNat:=Xa0 hk (by simpa using c)
   have h2:k.toNat < ns.length:=by omega
   simp only [wSs,wS,wE,wIdx,Wb,e,Option.bind_some,List.getElem?_cons_zero,List.getElem?_cons_succ,List.getElem?_map,List.getElem?_eq_getElem h2,Option.map_some,List.set_cons_succ,List.set_cons_zero]
   exact Zal ns k _ μ Q h
  ·simp only [c,decide_false,Bool.false_eq_true,if_false]
   exact Zal ns k _ μ Q h
 ·exact h.elim
noncomputable def nxt (l:List Int):List Int:=match l with | []=>[0] | a :: r=>r.map (a + ·) ++ [0]
noncomputable def lvl (d:Nat):Nat->List Int
 | 0=>1 :: List.replicate (d - 1) 0
 | n + 1=>nxt (lvl d n)
noncomputable def tot (d n:Nat):Int:=(lvl d n).sum
theorem nxt_len {l:List Int} (h:l≠[]):(nxt l).length=l.length:=by
 cases l with
 | nil=>exact absurd rfl h
 | cons a r=>simp [nxt]
theorem Ybl {d:Nat} (h:1<=d):∀ n,(lvl d n).length=d
 | 0=>by simp [lvl]; omega
 | n + 1=>by
  have:=Ybl h n
  rw [lvl,nxt_len,this]
  intro z; rw [z] at this; simp at this; omega
noncomputable def lvD (l:List Int):D:=.tup (l.map D.int)
end DW
end
section
namespace DW
open PySem
noncomputable def Va (n:Nat):D:=.int (n:Int)
noncomputable def gt (l:List Int) (i:Nat):Int:=l[i]?.getD 0
noncomputable def phD (t:Nat) (S:List Nat) (x:Int):D:=.tup [Va t,.tup (S.map Va),.int x]
noncomputable def isPh (l:List Int) (t:Nat) (S:List Nat) (x:Int):Prop:=t < l.length/\gt l t=0/\1<=x/\2<=S.length/\S.Pairwise (· < ·)/\∀ s∈S,s < l.length/\x<=gt l s
noncomputable def sub (l:List Int) (A:List Nat) (x:Int):List Int:=(List.range l.length).map fun i=>if i∈A then gt l i - x else gt l i
noncomputable def ledF (l:List Int) (t:Nat) (S:List Nat) (x:Int):List Int:=(List.range l.length).map fun i=>if i=t then x else if i∈S then gt l i - x else gt l i
theorem gt_at {l:List Int} {i:Nat} (h:i < l.length):l[i]? = some (gt l i):=by simp [gt,h]
theorem sub_nil (l:List Int) (x:Int):sub l [] x=l:=by
 apply List.ext_getElem?
 intro i
 by_cases h:i < l.length
 ·simp [sub,h,gt]
 ·simp [sub,h,Nat.le_of_not_lt h]
theorem sub_set {l:List Int} {A:List Nat} {x:Int} {s:Nat} (hs:s < l.length):(sub l A x).set s (gt l s - x)=sub l (A ++ [s]) x:=by
 apply List.ext_getElem?
 intro i
 by_cases h:i < l.length
 ·by_cases e:i=s
  ·subst e
   rw [List.getElem?_set_self (by simpa [sub] using h)]
   simp [sub,h]
  ·rw [List.getElem?_set_ne (Ne.symm e)]
   simp [sub,h,e]
 ·simp [sub,h,Nat.le_of_not_lt h]
theorem sub_led {l:List Int} {t:Nat} {S:List Nat} {x:Int} (ht:t < l.length):(sub l S x).set t x=ledF l t S x:=by
 apply List.ext_getElem?
 intro i
 by_cases h:i < l.length
 ·by_cases e:i=t
  ·subst e
   rw [List.getElem?_set_self (by simpa [sub] using h)]
   simp [ledF,h]
  ·rw [List.getElem?_set_ne (Ne.symm e)]
   simp [ledF,sub,h,e]
 ·simp [sub,ledF,h,Nat.le_of_not_lt h]
noncomputable def Dom (d p:Nat) (l:List Int):Prop:=∀ K:List Nat,K.Nodup->(∀ i∈K,i < d)->(K.map (gt l)).sum<=((lvl d p).take K.length).sum
theorem nxt_nn {l:List Int} (h:∀ x∈l,0<=x):∀ x∈nxt l,0<=x:=by
 cases l with
 | nil=>simp [nxt]
 | cons a r =>
  intro x hx
  simp only [nxt,List.mem_append,List.mem_map,List.mem_singleton] at hx
  rcases hx with ⟨y,hy,rfl⟩ | rfl
  ·have:=h a (by simp); have:=h y (by simp [hy]); omega
  ·omega
theorem lvl_nn (d:Nat):∀ n,∀ x∈lvl d n,0<=x
 | 0=>by
  intro x hx
  simp only [lvl,List.mem_cons] at hx
  rcases hx with rfl | hx
  ·omega
  ·have:=List.eq_of_mem_replicate hx; omega
 | n + 1=>nxt_nn (lvl_nn d n)
theorem Vbd:∀ {l:List Int},(∀ x∈l,0<=x)->0<=l.sum
 | [],_=>by simp
 | a :: l,h=>by
  have:=Vbd (l:=l) fun x hx=>h x (by simp [hx])
  have:=h a (by simp)
  rw [List.sum_cons]; omega
theorem Xbd {l:List Int} (h:∀ x∈l,0<=x) {a b:Nat} (hab:a<=b):(l.take a).sum<=(l.take b).sum:=by
 have e:l.take b=l.take a ++ (l.drop a).take (b - a):=by
  rw [<- List.take_append_drop a (l.take b),List.take_take,Nat.min_eq_left hab,List.drop_take]
 rw [e,List.sum_append]
 have:=Vbd (l:=(l.drop a).take (b - a)) fun x hx=>h x (List.mem_of_mem_drop (List.mem_of_mem_take hx))
 omega
theorem Xb6 {l l':List Int} (h:l.Perm l'):l.sum=l'.sum:=by
 induction h with
 | nil=>rfl
 | cons x _ ih=>simp only [List.sum_cons]; omega
 | swap x y l=>simp only [List.sum_cons]; omega
 | trans _ _ h1 h2=>omega
theorem Wb1 {l:List Int} (hl:∀ x∈l,0<=x) {K:List Nat} (nd:K.Nodup) (hK:∀ i∈K,i < l.length):(K.map (gt l)).sum<=l.sum:=by
 have pm:(List.range l.length).Perm (K ++ (List.range l.length).filter fun i=>decide (i ∉ K)):=by
  refine (List.perm_ext_iff_of_nodup List.nodup_range ?_).mpr fun i=>?_
  ·refine List.nodup_append.mpr ⟨nd,List.Pairwise.filter _ List.nodup_range,fun a ha b hb e=>?_⟩
   subst e
   simp at hb
   exact hb.2 ha
  ·simp only [List.mem_range,List.mem_append,List.mem_filter,decide_eq_true_eq]
   constructor
   ·intro h
    by_cases c:i∈K
    ·exact .inl c
    ·exact .inr ⟨h,c⟩
   ·rintro (h | h)
    ·exact hK i h
    ·exact h.1
 have e:l=(List.range l.length).map (gt l):=by
  apply List.ext_getElem?
  intro i
  by_cases h:i < l.length
  ·simp [h,gt]
  ·simp [h,Nat.le_of_not_lt h]
 have s:=Xb6 (pm.map (gt l))
 rw [<- e,List.map_append,List.sum_append] at s
 have:0<=(((List.range l.length).filter fun i=>decide (i ∉ K)).map (gt l)).sum:=by
  refine Vbd fun x hx=>?_
  obtain ⟨i,hi,rfl⟩:=List.mem_map.mp hx
  simp at hi
  have:=gt_at hi.1
  exact hl _ (List.mem_of_getElem? this)
 omega
theorem Dom.one {d:Nat} {l:List Int} (hd:1<=d) (hl:l.length=d) (h0:∀ x∈l,0<=x) (h1:l.sum<=1):Dom d 0 l:=by
 intro K nd hK
 rcases Nat.eq_zero_or_pos K.length with z | z
 ·have:K=[]:=List.length_eq_zero_iff.mp z
  subst this; simp
 ·have:=Wb1 h0 nd fun i hi=>by rw [hl]; exact hK i hi
  have e:((lvl d 0).take 1).sum=1:=by simp [lvl]
  have:=Xbd (lvl_nn d 0) (show 1<=K.length from z)
  omega
theorem Dom.sum {d p:Nat} {l:List Int} (hd:1<=d) (hl:l.length=d) (D:Dom d p l):l.sum<=tot d p:=by
 have:=D (List.range d) List.nodup_range fun i hi=>List.mem_range.mp hi
 have e:l=(List.range l.length).map (gt l):=by
  apply List.ext_getElem?
  intro i
  by_cases h:i < l.length
  ·simp [h,gt]
  ·simp [h,Nat.le_of_not_lt h]
 rw [hl] at e
 rw [<- e,List.length_range,List.take_of_length_le (by rw [Ybl hd]; omega)] at this
 exact this
end DW
end
section
namespace DW.K58
open PySem DW DW.K03
noncomputable def ok0 (μ:Mem):D->Prop
 | .ro _=>False
 | .dic _ _=>False
 | .fdc _ _=>False
 | .loc n=>dicB μ n=true
 | _=>True
noncomputable def okP (μ:Mem) (d:D):Prop:=ok0 μ d/\∀ es,d = .tup es->∀ e∈es,ok0 μ e/\∀ fs,e = .tup fs->∀ f∈fs,ok0 μ f
noncomputable def Yu (d:D) (n:Nat):Bool:=match d with
 | .int i=>decide (0<=i/\i < n)
 | _=>false
noncomputable def goB (l:List Int) (x:Int):Int->List D->Bool
 | _,[]=>true
 | b,d :: r=>match d with
  | .int i=>decide (0<=i/\i < l.length) && (decide (b < i) && (decide (x<=gt l i.toNat) && goB l x i r))
  | _=>false
noncomputable def srcB (l:List Int) (x:Int):D->Bool
 | .tup ds=>decide (2<=ds.length) && goB l x (-1) ds
 | _=>false
noncomputable def intD:D->Option Int
 | .int i=>some i
 | _=>none
noncomputable def phB (l:List Int):D->Bool
 | .tup es=>match es with
  | [a,s,c]=>(match intD a,intD c with
   | some t,some x=>decide (0<=t/\t < l.length) && (decide (gt l t.toNat=0) && (decide (1<=x) && srcB l x s))
   | _,_=>false)
  | _=>false
 | _=>false
noncomputable def sp_is_below:DSp:=fun ds μ Q=>∃ (d:D) (n:Nat),ds=[d,.int (n:Int)]/\ok0 μ d/\Q (.bl (Yu d n)) μ
noncomputable def sp_are_sources:DSp:=fun ds μ Q=>∃ (d:D) (l:List Int) (x:Int),ds=[d,lvD l,.int x]/\ok0 μ d/\(∀ es,d = .tup es->∀ e∈es,ok0 μ e)/\Q (.bl (srcB l x d)) μ
noncomputable def sp_is_phase:DSp:=fun ds μ Q=>∃ (d:D) (l:List Int),ds=[d,lvD l]/\okP μ d/\Q (.bl (phB l d)) μ
noncomputable def sp_led:DSpX:=fun ds μ Q X=>(∃ (l:List Int) (t:Nat) (S:List Nat) (x:Int),ds=[lvD l,phD t S x]/\isPh l t S x/\∀ c,Q (lvD (ledF l t S x)) (μ ++ [c]))∨(∃ (l:List Int) (d:D),ds=[lvD l,d]/\okP μ d/\phB l d=false/\X "NoPhase" [] [] μ)
noncomputable def spL_led:DSp:=fun ds μ Q=>∃ (l:List Int) (t:Nat) (S:List Nat) (x:Int),ds=[lvD l,phD t S x]/\isPh l t S x/\l.length < 1000/\0<=x/\x < 1000/\∀ c,Q (lvD (ledF l t S x)) (μ ++ [c])
noncomputable def spL_classes:DSp:=fun ds μ Q=>∃ (n:Nat) (ks:List String) (es:List D),ds=[.loc n]/\μ[n]? = some (.exc "NoPhase" ks es)/\Q (.lst ([false,false,false,false,false,true,false,false,false,false,false,false,false].map D.bl)) μ
noncomputable def spL_only:DSp:=fun ds μ Q=>∃ (n:Nat) (p:Nat) (ks:List String) (es:List D),ds=[.loc n,.int (p:Int)]/\μ[n]? = some (.exc "NoPhase" ks es)/\p < 13/\Q (.bl (p == 5)) μ
noncomputable def spL_told:DSp:=fun ds μ Q=>(∃ (l:List Int) (t:Nat) (S:List Nat) (x:Int),ds=[lvD l,phD t S x]/\isPh l t S x/\∀ ν,Q (lvD (ledF l t S x)) (μ ++ ν))∨(∃ (l:List Int) (d:D),ds=[lvD l,d]/\okP μ d/\phB l d=false/\∀ ν,Q (.lst [.int 5]) (μ ++ ν))
noncomputable def n_is_below:List Str:=["thing","many"]
noncomputable def i_is_below:Ss:=(.cons (.ret (.and (.call "is_whole" sp_is_whole (.cons (.var 0) .nil)) (.chain .LtE .Lt (.cst (.int 0)) (.var 0) (.var 1)))) .nil)
noncomputable def n_are_sources:List Str:=["thing","layout","times","last","drive"]
noncomputable def i_are_sources:Ss:=(.cons (.ite (.or (.not (.isin (.var 0) "tuple")) (.cmp .Lt (.blt "len" (.cons (.var 0) .nil)) (.cst (.int 2)))) (.cons (.ret (.cst (.bl false))) .nil) .nil) (.cons (.set 3 (.neg (.cst (.int 1)))) (.cons (.for_ [4] false (.seq (.var 0)) (.cons (.ite (.or (.not (.call "is_below" sp_is_below (.cons (.var 4) (.cons (.blt "len" (.cons (.var 1) .nil)) .nil)))) (.or (.cmp .LtE (.var 4) (.var 3)) (.cmp .Lt (.idx (.var 1) (.var 4)) (.var 2)))) (.cons (.ret (.cst (.bl false))) .nil) .nil) (.cons (.set 3 (.var 4)) .nil))) (.cons (.ret (.cst (.bl true))) .nil))))
noncomputable def n_is_phase:List Str:=["thing","layout"]
noncomputable def i_is_phase:Ss:=(.cons (.ite (.or (.not (.isin (.var 0) "tuple")) (.cmp .NotEq (.blt "len" (.cons (.var 0) .nil)) (.cst (.int 3)))) (.cons (.ret (.cst (.bl false))) .nil) .nil) (.cons (.ite (.or (.not (.call "is_below" sp_is_below (.cons (.idx (.var 0) (.cst (.int 0))) (.cons (.blt "len" (.cons (.var 1) .nil)) .nil)))) (.cmp .NotEq (.idx (.var 1) (.idx (.var 0) (.cst (.int 0)))) (.cst (.int 0)))) (.cons (.ret (.cst (.bl false))) .nil) .nil) (.cons (.ite (.or (.not (.call "is_whole" sp_is_whole (.cons (.idx (.var 0) (.cst (.int 2))) .nil))) (.cmp .Lt (.idx (.var 0) (.cst (.int 2))) (.cst (.int 1)))) (.cons (.ret (.cst (.bl false))) .nil) .nil) (.cons (.ret (.call "are_sources" sp_are_sources (.cons (.idx (.var 0) (.cst (.int 1))) (.cons (.var 1) (.cons (.idx (.var 0) (.cst (.int 2))) .nil))))) .nil))))
noncomputable def n_led:List Str:=["layout","phase","told","drive"]
noncomputable def i_led:Ss:=(.cons (.ite (.not (.call "is_phase" sp_is_phase (.cons (.var 1) (.cons (.var 0) .nil)))) (.cons (.rais "NoPhase" (.cons (.cst (.str [116,104,105,115,32,105,115,32,110,111,32,112,104,97,115,101,32,111,102,32,116,104,101,32,108,97,121,111,117,116])) .nil)) .nil) .nil) (.cons (.set 2 (.blt "mlist" (.cons (.var 0) .nil))) (.cons (.for_ [3] false (.seq (.idx (.var 1) (.cst (.int 1)))) (.cons (.augIx .Sub (.var 2) (.var 3) (.idx (.var 1) (.cst (.int 2)))) .nil)) (.cons (.setIx (.var 2) (.idx (.var 1) (.cst (.int 0))) (.idx (.var 1) (.cst (.int 2)))) (.cons (.ret (.blt "tuple" (.cons (.var 2) .nil))) .nil)))))
noncomputable def nL_box:List Str:=["script","k","here","number","j","part"]
noncomputable def iL_box:Ss:=(.cons (.set 2 (.bin .Add (.bin .Mult (.cst (.int 7919)) (.var 1)) (.cst (.int 13)))) (.cons (.ite (.cmp .Lt (.var 1) (.blt "len" (.cons (.var 0) .nil))) (.cons (.set 2 (.idx (.var 0) (.var 1))) .nil) .nil) (.cons (.ite (.cmp .Eq (.bin .Mod (.var 2) (.cst (.int 2))) (.cst (.int 0))) (.cons (.ret (.lst true (.cons (.bin .FloorDiv (.var 2) (.cst (.int 2))) .nil))) .nil) .nil) (.cons (.set 3 (.cst (.int 0))) (.cons (.for_ [4] false (.rng (.cons (.cst (.int 16)) .nil)) (.cons (.set 5 (.bin .Mod (.bin .Add (.bin .Add (.bin .Mult (.bin .Mod (.var 2) (.cst (.int 2147483647))) (.cst (.int 48271))) (.bin .Mult (.cst (.int 7919)) (.var 4))) (.cst (.int 1))) (.cst (.int 2147483647)))) (.cons (.set 5 (.bin .Mod (.bin .Mult (.var 5) (.var 5)) (.cst (.int 2147483629)))) (.cons (.set 3 (.bin .Add (.bin .Mult (.var 3) (.cst (.int 2147483647))) (.bin .Mod (.bin .Mult (.var 5) (.bin .Add (.var 5) (.cst (.int 13)))) (.cst (.int 2147483647))))) .nil)))) (.cons (.ret (.lst true (.cons (.var 3) .nil))) .nil))))))
noncomputable def nL_led:List Str:=["layout","phase","target","sources","times","found","drive","more"]
noncomputable def iL_led:Ss:=(.cons (.setT [2,3,4] (.var 1)) (.cons (.set 5 (.lst true .nil)) (.cons (.for_ [6] false (.rng (.cons (.blt "len" (.cons (.var 0) .nil)) .nil)) (.cons (.set 7 (.bin .Mult (.var 4) (.blt "int" (.cons (.cmp .Eq (.var 6) (.var 2)) .nil)))) (.cons (.exp (.meth "append" (.var 5) (.cons (.bin .Sub (.bin .Add (.idx (.var 0) (.var 6)) (.var 7)) (.bin .Mult (.var 4) (.blt "int" (.cons (.cmp .In (.var 6) (.var 3)) .nil)))) .nil))) .nil))) (.cons (.ret (.blt "tuple" (.cons (.var 5) .nil))) .nil))))
noncomputable def nL_classes:List Str:=["e","found"]
noncomputable def iL_classes:Ss:=(.cons (.set 1 (.lst false (.cons (.isx (.var 0) false ["NoRoom"] [("NoPhase",false)]) (.cons (.isx (.var 0) false ["NoWidth"] [("NoPhase",false)]) (.cons (.isx (.var 0) false ["NoDrives"] [("NoPhase",false)]) (.cons (.isx (.var 0) false ["NoPlace"] [("NoPhase",false)]) .nil)))))) (.cons (.set 1 (.cat false (.var 1) (.lst false (.cons (.isx (.var 0) false ["NoDrive"] [("NoPhase",false)]) (.cons (.isx (.var 0) false ["NoPhase"] [("NoPhase",true)]) (.cons (.isx (.var 0) false ["NoShelf"] [("NoPhase",false)]) (.cons (.isx (.var 0) false ["NoLine"] [("NoPhase",false)]) .nil))))))) (.cons (.set 1 (.cat false (.var 1) (.lst false (.cons (.isx (.var 0) false ["TooMany"] [("NoPhase",false)]) (.cons (.isx (.var 0) false ["NoRow"] [("NoPhase",false)]) (.cons (.isx (.var 0) false ["NotRising"] [("NoPhase",false)]) (.cons (.isx (.var 0) false ["NoTrace"] [("NoPhase",false)]) .nil))))))) (.cons (.ret (.cat false (.var 1) (.lst false (.cons (.isx (.var 0) false ["Bare"] [("NoPhase",false)]) .nil)))) .nil))))
noncomputable def nL_only:List Str:=["e","place"]
noncomputable def iL_only:Ss:=(.cons (.ite (.or (.not (.isx (.var 0) false ["PourError"] [("NoPhase",true)])) (.not (.isx (.var 0) false ["ValueError"] [("NoPhase",true)]))) (.cons (.ret (.cst (.bl false))) .nil) .nil) (.cons (.ret (.cmp .Eq (.call "_law_classes" spL_classes (.cons (.var 0) .nil)) (.comp false 1 false [1] (.cmp .Eq (.var 0) (.var 1)) (.rng (.cons (.cst (.int 13)) .nil)) .nil))) .nil))
noncomputable def nL_told:List Str:=["layout","phase","e"]
noncomputable def iL_told:Ss:=(.cons (.tryx "PourError" ["NoPhase"] 2 (.cons (.retX (.fn "led" sp_led (.cons (.var 0) (.cons (.var 1) .nil)))) .nil) (.cons (.ret (.comp false 1 false [2] (.var 0) (.rng (.cons (.cst (.int 13)) .nil)) (.cons (.call "_law_only" spL_only (.cons (.var 1) (.cons (.var 0) .nil))) .nil))) .nil)) .nil)
theorem k_is_below:Keeps n_is_below i_is_below sp_is_below:=by
 rintro ds μ Q ⟨d,n,rfl,hd,h⟩
 cases d with
 | int i =>
  simp [i_is_below,n_is_below,Zc,topZ,wSs,wS,wE,wEs,sp_is_whole,wBl,wCmp,ltD]
  by_cases h0:0<=i
  ·simpa [h0,Yu] using h
  ·simpa [h0,Yu] using h
 | ro _=>exact hd.elim
 | dic _ _=>exact hd.elim
 | fdc _ _=>exact hd.elim
 | loc m =>
  have hd:dicB μ m=true:=hd
  simpa [i_is_below,n_is_below,Zc,topZ,wSs,wS,wE,wEs,sp_is_whole,wBl,hd,Yu] using h
 | _=>simpa [i_is_below,n_is_below,Zc,topZ,wSs,wS,wE,wEs,sp_is_whole,wBl,Yu] using h
theorem ty_no {μ:Mem} {d:D} (h:ok0 μ d) (hn:∀ es,d≠.tup es) (Q:QD) (q:Q (.bl false) μ):Yn "tuple" d μ Q:=by
 cases d with
 | ro _=>exact h.elim
 | dic _ _=>exact h.elim
 | fdc _ _=>exact h.elim
 | tup es=>exact absurd rfl (hn es)
 | loc m=>unfold Yn; rw [dic_ty h]; exact q
 | _=>exact q
theorem Xbk (d:D):(∃ es,d = .tup es)∨∀ es,d≠.tup es:=by
 cases d with
 | tup es=>exact .inl ⟨es,rfl⟩
 | _=>exact .inr fun _ z=>by cases z
theorem k_are_sources:Keeps n_are_sources i_are_sources sp_are_sources:=by
 rintro ds μ Q ⟨d,l,x,rfl,hd,hes,h⟩
 rcases Xbk d with ⟨es,rfl⟩ | hn
 ·simp [i_are_sources,n_are_sources,Zc,topZ,wSs,wS,wT,wE,wEs,wI,wSeq,Yn,tyOf,isTy,wBl,wBlt,lenOf,Wb,wCmp,ltD]
  by_cases h2:2<=es.length
  ·have h2':¬ ((es.length:Int) < 2):=by omega
   simp only [h2',if_false]
   have hq:∀ b:Int,b = -1->Q (.bl (goB l x b es)) μ:=fun b e=>by subst e; simpa [srcB,h2] using h
   clear h
   refine Xg (fun ds ρ μ'=>∃ (b:Int) (a:Option D),(∀ e∈ds,ok0 μ e)/\Q (.bl (goB l x b ds)) μ/\ρ=[some (.tup es),some (lvD l),some (.int x),some (.int b),a]/\μ'=μ) ?_ ?_ _ _ _ ⟨-1,none,hes es rfl,hq _ rfl,rfl,rfl⟩
   ·rintro d ds ρ μ1 N hN ⟨b,a,ho,hq,rfl,rfl⟩
    refine ⟨trivial,?_⟩
    have h0:=ho d (by simp)
    simp [Yo,wT,wE,wEs,lvD,lenOf,Wb,wBlt]
    refine ⟨d,l.length,rfl,h0,?_⟩
    cases d with
    | int i =>
     simp only [goB] at hq
     simp only [Yu,wTru,truth]
     by_cases c1:0<=i/\i < l.length
     ·have c1':¬ (¬ (0<=i/\i < (l.length:Int))):=fun z=>z c1
      have g1:i.toNat < l.length:=by omega
      have ix:ixD l.length i=some i.toNat:=Xa0 c1.1 c1.2
      have g6:gt l i.toNat=l[i.toNat]:=by simp [gt,g1]
      simp [c1.1,c1.2,wCmp,wBl]
      by_cases c2:i<=b
      ·have c2':¬ (b < i):=by omega
       simp [c2]
       simpa [c1.1,c1.2,c2'] using hq
      ·have c2':b < i:=by omega
       simp [c2,wIdx,Wb,ix,g1,ltD]
       by_cases c3:l[i.toNat] < x
       ·simp [c3]
        have:¬ (x<=gt l i.toNat):=by omega
        simpa [c1.1,c1.2,c2',this] using hq
       ·simp [c3]
        have:x<=gt l i.toNat:=by omega
        refine hN _ _ ⟨i,_,fun e he=>ho e (by simp [he]),?_,rfl,rfl⟩
        simpa [c1.1,c1.2,c2',this] using hq
     ·simp [c1]
      have:decide (0<=i/\i < (l.length:Int))=false:=by simpa using c1
      rw [this] at hq
      simpa using hq
    | _=>simp only [goB] at hq; simp only [Yu,wTru,truth]; simpa using hq
   ·rintro ρ μ1 ⟨b,a,ho,hq,rfl,rfl⟩
    exact ⟨trivial,by simpa [goB] using hq⟩
  ·have h2':(es.length:Int) < 2:=by omega
   simp only [h2',if_true]
   simpa [srcB,h2] using h
 ·simp [i_are_sources,n_are_sources,Zc,topZ,wSs,wS,wT,wE,wEs]
  refine ty_no hd hn _ ?_
  have e:srcB l x d=false:=by
   cases d with
   | tup es=>exact absurd rfl (hn es)
   | _=>rfl
  rw [e] at h
  simpa [wBl] using h
theorem ok_int {μ:Mem} {d:D} (h:ok0 μ d):(∃ i,d = .int i)∨((∀ i,d≠.int i)/\∀ Q:QD,Q (.bl false) μ->sp_is_whole [d] μ Q):=by
 cases d with
 | int i=>exact .inl ⟨i,rfl⟩
 | ro _=>exact h.elim
 | dic _ _=>exact h.elim
 | fdc _ _=>exact h.elim
 | loc m=>exact .inr ⟨fun _ z=>(by cases z),fun Q q=>⟨h,q⟩⟩
 | _=>exact .inr ⟨fun _ z=>(by cases z),fun Q q=>q⟩
theorem Vbh {l:List Int} {a s c:D} (h:(∀ i,a≠.int i)∨∀ i,c≠.int i):phB l (.tup [a,s,c])=false:=by
 have nz:∀ d:D,(∀ i,d≠.int i)->intD d=none:=fun d hd=>by
  cases d with
  | int i=>exact absurd rfl (hd i)
  | _=>rfl
 unfold phB
 rcases h with h | h
 ·simp only [nz a h]
 ·simp only [nz c h]
  cases intD a <;> rfl
theorem Zbi {l:List Int} {t:Int} {s c:D} (h:¬ ((0<=t/\t < (l.length:Int))/\gt l t.toNat=0)):phB l (.tup [.int t,s,c])=false:=by
 cases c with
 | int x =>
  show (decide (0<=t/\t < (l.length:Int)) && (decide (gt l t.toNat=0) && (decide (1<=x) && srcB l x s)))=false
  by_cases c1:0<=t/\t < (l.length:Int)
  ·have:¬ gt l t.toNat=0:=fun z=>h ⟨c1,z⟩
   simp [this]
  ·simp only [c1,decide_false,Bool.false_and]
 | _=>rfl
theorem k_is_phase:Keeps n_is_phase i_is_phase sp_is_phase:=by
 rintro ds μ Q ⟨d,l,rfl,⟨hd,hes⟩,h⟩
 rcases Xbk d with ⟨es,rfl⟩ | hn
 ·have hes:=hes es rfl
  match es,hes,h with
  | [a,s,c],hes,h =>
   obtain ⟨ha,_⟩:=hes a (by simp)
   obtain ⟨hs,hs2⟩:=hes s (by simp)
   obtain ⟨hc,_⟩:=hes c (by simp)
   simp [i_is_phase,n_is_phase,Zc,topZ,wSs,wS,wT,wE,wEs,Yn,tyOf,isTy,wBl,wBlt,lenOf,Wb,wCmp,flat,eqD,wIdx,ixD]
   refine ⟨a,l.length,by simp,ha,?_⟩
   rcases ok_int ha with ⟨t,rfl⟩ | ⟨na,_⟩
   ·simp only [Yu,wTru,truth]
    by_cases c1:0<=t/\t < l.length
    ·have g1:t.toNat < l.length:=by omega
     have ix:ixD l.length t=some t.toNat:=Xa0 c1.1 c1.2
     have g6:gt l t.toNat=l[t.toNat]:=by simp [gt,g1]
     have ix':(if 0<=t then if t < (l.length:Int) then some t.toNat else none else if -(l.length:Int)<=t then some (t + l.length).toNat else none)=some t.toNat:=ix
     simp [c1.1,c1.2,lvD,Wb,g1,flat,eqD]
     by_cases c2:l[t.toNat]=0
     ·simp [c2]
      rcases ok_int hc with ⟨x,rfl⟩ | ⟨nc,hw⟩
      ·simp only [sp_is_whole,wTru,truth]
       by_cases c3:x < 1
       ·simp [ltD,c3]
        have:¬ (1<=x):=by omega
        simpa [phB,intD,c1.1,c1.2,g6,c2,this] using h
       ·simp [ltD,c3]
        have:1<=x:=by omega
        refine ⟨s,l,x,rfl,hs,fun es e f hf=>hs2 es e f hf,?_⟩
        simpa [phB,intD,c1.1,c1.2,g6,c2,this] using h
      ·refine hw _ ?_
       rw [Vbh (.inr nc)] at h
       simpa [wTru,truth] using h
     ·simp [c2]
      have:¬ gt l t.toNat=0:=by omega
      rw [Zbi (fun z=>this z.2)] at h
      simpa using h
    ·have c1':decide (0<=t/\t < (l.length:Int))=false:=by simpa using c1
     simp only [c1',Bool.not_false,if_true]
     rw [Zbi (fun z=>c1 z.1)] at h
     simpa using h
   ·have e:Yu a l.length=false:=by
     cases a with
     | int i=>exact absurd rfl (na i)
     | _=>rfl
    rw [Vbh (.inl na)] at h
    rw [e]
    simpa [wTru,truth] using h
  | [],hes,h=>simpa [i_is_phase,n_is_phase,Zc,topZ,wSs,wS,wT,wE,wEs,Yn,tyOf,isTy,wBl,wBlt,lenOf,Wb,wCmp,flat,eqD,phB] using h
  | [_],hes,h=>simpa [i_is_phase,n_is_phase,Zc,topZ,wSs,wS,wT,wE,wEs,Yn,tyOf,isTy,wBl,wBlt,lenOf,Wb,wCmp,flat,eqD,phB] using h
  | [_,_],hes,h=>simpa [i_is_phase,n_is_phase,Zc,topZ,wSs,wS,wT,wE,wEs,Yn,tyOf,isTy,wBl,wBlt,lenOf,Wb,wCmp,flat,eqD,phB] using h
  | _ :: _ :: _ :: _ :: r,hes,h =>
   have e:¬ ((r.length:Int) + 1 + 1 + 1 + 1=3):=by omega
   simpa [i_is_phase,n_is_phase,Zc,topZ,wSs,wS,wT,wE,wEs,Yn,tyOf,isTy,wBl,wBlt,lenOf,Wb,wCmp,flat,eqD,phB,e] using h
 ·simp [i_is_phase,n_is_phase,Zc,topZ,wSs,wS,wT,wE,wEs]
  refine ty_no hd hn _ ?_
  have e:phB l d=false:=by
   cases d with
   | tup es=>exact absurd rfl (hn es)
   | _=>rfl
  rw [e] at h
  simpa [wBl] using h
theorem k_led:Zby n_led i_led sp_led:=by
 rintro ds μ Q X (⟨l,t,S,x,rfl,hp,h⟩ | ⟨l,d,rfl,hd,hf,h⟩)
 ·simp only [i_led,n_led,Zc,Zb1,wSs,wS,wT,wE,wEs,List.map_cons,List.map_nil,List.length_cons,List.length_nil,List.cons_append,List.nil_append,List.getElem?_cons_zero,List.getElem?_cons_succ]
  have ok0n:∀ n:Nat,ok0 μ (Va n):=fun _=>trivial
  refine ⟨phD t S x,l,rfl,⟨trivial,?_⟩,?_⟩
  ·intro es e f hf
   obtain rfl:es=[Va t,.tup (S.map Va),.int x]:=by cases e; rfl
   simp only [List.mem_cons,List.not_mem_nil,or_false] at hf
   rcases hf with rfl | rfl | rfl
   ·exact ⟨trivial,fun fs z=>by cases z⟩
   ·refine ⟨trivial,fun fs z g hg=>?_⟩
    cases z
    obtain ⟨n,_,rfl⟩:=List.mem_map.mp hg
    exact trivial
   ·exact ⟨trivial,fun fs z=>by cases z⟩
  have hb:phB l (phD t S x)=true:=by
   obtain ⟨h1,h2,h3,h4,h5,h6⟩:=hp
   have go:∀ (S:List Nat) (b:Int),S.Pairwise (· < ·)->(∀ s∈S,s < l.length/\x<=gt l s)->(∀ s∈S,b < (s:Int))->goB l x b (S.map Va)=true:=by
    intro S
    induction S with
    | nil=>intro b _ _ _; rfl
    | cons s S ih =>
     intro b hp hs hb
     have e:=ih s (List.pairwise_cons.mp hp).2 (fun s' h=>hs s' (by simp [h])) (fun s' h=>by have:=(List.pairwise_cons.mp hp).1 s' h; omega)
     have a1:=(hs s (by simp)).1
     have a2:=(hs s (by simp)).2
     have a3:=hb s (by simp)
     simp [Va,goB,a1,a2,a3]
     exact e
   simp [phB,phD,Va,intD,h1,h2,h3,srcB,h4]
   exact go S (-1) h5 h6 fun s _=>by omega
  rw [hb]
  obtain ⟨h1,h2,h3,h4,h5,h6⟩:=hp
  simp [wTru,truth,wBlt,Wb,lvD,newL,wI,wE,wIdx,phD,ixD,wSeq]
  refine Xg (fun ds ρ μ'=>∃ (A T:List Nat) (a:Option D),S=A ++ T/\ds=T.map Va/\ρ=[some (.tup (l.map D.int)),some (phD t S x),some (.loc μ.length),a]/\μ'=μ ++ [.lst ((sub l A x).map D.int)]) ?_ ?_ _ _ _ ⟨[],S,none,rfl,rfl,by simp [phD],by rw [sub_nil]⟩
  ·rintro d ds ρ μ1 N hN ⟨A,T,a,rfl,e,rfl,rfl⟩
   cases T with
   | nil=>simp at e
   | cons s T =>
    simp only [List.map_cons,List.cons.injEq] at e
    obtain ⟨rfl,rfl⟩:=e
    obtain ⟨g1,g2⟩:=h6 s (by simp)
    have hA:s ∉ A:=fun z=>by
     have:=(List.pairwise_append.mp h5).2.2 s z s (by simp)
     omega
    have ls:s < (sub l A x).length:=by simpa [sub] using g1
    have es:(sub l A x)[s]? = some (gt l s):=by simp [sub,g1,hA]
    refine ⟨trivial,?_⟩
    simp [Yo,Va,Za4,es,wE,wIdx,phD,Wb,ixD,Yaf,Zn,g1]
    rw [if_pos ls]
    refine hN _ _ ⟨A ++ [s],T,some (Va s),by simp,rfl,by simp [phD,Va],?_⟩
    rw [<- sub_set g1]
    simp
  ·rintro ρ μ1 ⟨A,T,a,rfl,e,rfl,rfl⟩
   have:T=[]:=by simpa using e.symm
   subst this
   rw [List.append_nil] at *
   refine ⟨trivial,?_⟩
   have lt:t < (sub l A x).length:=by simpa [sub] using h1
   simp [wE,wEs,wIdx,phD,Wb,ixD,Va,Zn,wBlt]
   rw [if_pos lt]
   have:=h (.lst ((ledF l t A x).map D.int))
   rw [<- sub_led h1] at this
   simpa [lvD] using this
 ·simp only [i_led,n_led,Zc,Zb1,wSs,wS,wT,wE,wEs,List.map_cons,List.map_nil,List.length_cons,List.length_nil,List.cons_append,List.nil_append,List.getElem?_cons_zero,List.getElem?_cons_succ]
  refine ⟨d,l,rfl,hd,?_⟩
  rw [hf]
  simp [wTru,truth,lim]
  exact h
theorem kL_box:Keeps nL_box iL_box spL_box:=kL_box2
theorem kL_classes:Keeps nL_classes iL_classes spL_classes:=by
 rintro ds μ Q ⟨n,ks,es,rfl,hn,h⟩
 simp [iL_classes,nL_classes,Zc,topZ,wSs,wS,wE,wEs,newL,lim,wIsx,hn,wCat,wlOf]
 exact h
theorem kL_only:Keeps nL_only iL_only spL_only:=by
 rintro ds μ Q ⟨n,p,ks,es,rfl,hn,hp,h⟩
 simp [iL_only,nL_only,Zc,topZ,wSs,wS,wT,wE,wEs,wI,wRng,Xv,lim,wIsx,hn,wBl]
 refine ⟨n,ks,es,rfl,hn,?_⟩
 rw [Zz]
 refine Ya4 (fun (k:Nat)=>D.int (k:Int)) (fun k=>D.bl (k == p)) trivial _ _ ?_ ?_
 ·intro x hx Y N z
  have e:(decide ((x:Int)=(p:Int)))=(x == p):=by
   rw [Bool.eq_iff_iff]; simp; omega
  simp [bindC,wTs,wCmp,flat,eqD]
  have e2:((x:Int) == (p:Int))=(x == p):=by
   rw [Bool.eq_iff_iff]; simp; omega
  first | (rw [e2]; exact z) | (rw [e]; exact z) | simpa [e,e2] using z
 ·have hk:p=0∨p=1∨p=2∨p=3∨p=4∨p=5∨p=6∨p=7∨p=8∨p=9∨p=10∨p=11∨p=12:=by omega
  rcases hk with rfl | rfl | rfl | rfl | rfl | rfl | rfl | rfl | rfl | rfl | rfl | rfl | rfl <;> (refine ⟨by decide,by decide,?_⟩; exact h)
theorem Ybd {ρ:Rho} {μ:Mem} {Z:DEnds} {n:Nat} (hρ:ρ[2]? = some (some (.loc n))) (hn:μ[n]? = some (.exc "NoPhase" [] [])) (h:Z.rt (.lst [.int 5]) μ) :
  wSs (.cons (.ret (.comp false 1 false [2] (.var 0) (.rng (.cons (.cst (.int 13)) .nil)) (.cons (.call "_law_only" spL_only (.cons (.var 1) (.cons (.var 0) .nil))) .nil))) .nil) Z ρ μ:=by
 simp [wSs,wS,wE,wEs,wI,wRng,Xv,lim,hρ]
 rw [Zz]
 refine Vf (fun (k:Nat)=>D.int (k:Int)) (fun k=>k == 5) (fun k=>D.int (k:Int)) trivial _ _ ?_ ?_
 ·intro x hx Y N z
  simp [bindC,wTs,wT,wEs,wE]
  refine ⟨n,x,[],[],rfl,hn,by simpa using hx,?_⟩
  simpa [wTru,truth] using z
 ·exact h
theorem kL_told:Keeps nL_told iL_told spL_told:=by
 rintro ds μ Q (⟨l,t,S,x,rfl,hp,h⟩ | ⟨l,d,rfl,hd,hf,h⟩)
 ·simp [iL_told,nL_told,Zc,topZ,wSs,wS,wXC,wE,wEs]
  exact .inl ⟨l,t,S,x,rfl,hp,fun c=>h _⟩
 ·have key:wSs (.cons (.ret (.comp false 1 false [2] (.var 0) (.rng (.cons (.cst (.int 13)) .nil)) (.cons (.call "_law_only" spL_only (.cons (.var 1) (.cons (.var 0) .nil))) .nil))) .nil) { nx:=fun _ _=>False,rt:=Q } [some (lvD l),some d,some (.loc μ.length)] (μ ++ [.exc "NoPhase" [] []]):=Ybd rfl (by simp) (h _)
  simp only [iL_told]
  generalize Ss.cons (.ret (.comp false 1 false [2] (.var 0) (.rng (.cons (.cst (.int 13)) .nil)) (.cons (.call "_law_only" spL_only (.cons (.var 1) (.cons (.var 0) .nil))) .nil))) .nil=R at key
  simp [nL_told,Zc,topZ,wSs,wS,wXC,wE,wEs]
  exact .inr ⟨l,d,rfl,hd,hf,rfl,key⟩
theorem Wb2 {μ:Mem} {c c':Cell}:(μ ++ [c]).set μ.length c'=μ ++ [c']:=by simp
theorem mul01 (x:Int) (b:Bool):CMulD x (if b=true then 1 else 0):=.inr (by split <;> decide)
theorem Vj (n:Nat):∀ S:List Nat,flats n (S.map Va)=true
 | []=>rfl
 | a :: S=>by simp [flats,flat,Va,Vj n S]
theorem eq_nat (a b:Nat):eqD (.int (a:Int)) (.int (b:Int))=decide (a=b):=by
 simp only [eqD]; rw [Bool.eq_iff_iff]; simp; omega
theorem Yav (k:Nat):∀ S:List Nat,(S.map Va).any (fun d=>eqD d (.int (k:Int)))=decide (k∈S)
 | []=>rfl
 | a :: S=>by
  simp only [List.map_cons,List.any_cons,Yav k S,Va,eq_nat,List.mem_cons]
  by_cases c:k=a
  ·subst c; simp
  ·simp [c,Ne.symm c]
noncomputable def lawL (l:List Int) (t:Nat) (S:List Nat) (x:Int):List Int:=(List.range l.length).map fun i=>gt l i + x * (if i=t then 1 else 0) - x * (if i∈S then 1 else 0)
theorem lawL_eq {l:List Int} {t:Nat} {S:List Nat} {x:Int} (h:isPh l t S x):lawL l t S x=ledF l t S x:=by
 unfold lawL ledF
 refine List.map_congr_left fun i hi=>?_
 obtain ⟨h1,h2,h3,h4,h5,h6⟩:=h
 have ht:t ∉ S:=fun z=>by have:=(h6 t z).2; omega
 by_cases c:i=t
 ·subst c; simp [ht,h2]
 ·by_cases c2:i∈S <;> simp [c,c2]
theorem Zbx {l:List Int} {k:Nat} (h:k < l.length) {μ:Mem} {Q:QD} (q:Q (.int (gt l k)) μ):wIdx (lvD l) (.int (k:Int)) μ Q:=by
 have e:l[k]? = some (gt l k):=gt_at h
 simp only [wIdx,lvD,Wb,List.length_map,ixD_nat h,Option.bind_some,List.getElem?_map,e,Option.map_some]
 exact q
theorem kL_led:Keeps nL_led iL_led spL_led:=by
 rintro ds μ Q ⟨l,t,S,x,rfl,hp,hl,x0,x1,q⟩
 rw [<- lawL_eq hp] at q
 simp only [iL_led,nL_led,Zc,topZ,wSs,wS,wT,wE,wEs,wI,wRng,Xv,newL,phD,Yo,List.map_cons,List.map_nil,List.length_cons,List.length_nil,List.cons_append,List.nil_append,List.getElem?_cons_zero,List.getElem?_cons_succ,List.replicate,List.zip_cons_cons,List.zip_nil_left,List.zip_nil_right,List.foldl_cons,List.foldl_nil,List.set_cons_zero,List.set_cons_succ,if_true]
 refine ⟨trivial,by decide,?_⟩
 have lB:∀ (ν:Mem) (Q:QD),wBlt "len" [lvD l] ν Q=Q (.int (l.length:Int)) ν:=fun ν Q=>by simp [wBlt,lenOf,Wb,lvD]
 simp only [lB,Int.toNat_natCast,Zz]
 refine ⟨by simp only [lim]; omega,by omega,?_⟩
 refine Xg (fun ds ρ μ'=>∃ (j:Nat) (v6 v7:Option D),j<=l.length/\ds=(List.range' j (l.length - j)).map (fun (k:Nat)=>D.int (k:Int))/\μ'=μ ++ [.lst (((lawL l t S x).take j).map D.int)]/\ρ=[some (lvD l),some (.tup [Va t,.tup (S.map Va),.int x]),some (Va t),some (.tup (S.map Va)),some (.int x),some (.loc μ.length),v6,v7]) ?_ ?_ _ _ _ ⟨0,none,none,Nat.zero_le _,by simp [List.range_eq_range'],by simp,rfl⟩
 ·rintro d ds ρ μ' N hN ⟨j,v6,v7,hj,e1,rfl,rfl⟩
  have hj2:j < l.length:=by
   rcases Nat.lt_or_ge j l.length with z | z
   ·exact z
   ·rw [show l.length - j=0 by omega] at e1; simp at e1
  rw [show l.length - j=(l.length - (j + 1)) + 1 by omega,List.range'_succ] at e1
  simp only [List.map_cons,List.cons.injEq] at e1
  obtain ⟨rfl,rfl⟩:=e1
  refine ⟨trivial,?_⟩
  simp only [List.set_cons_zero,List.set_cons_succ,List.getElem?_cons_zero,List.getElem?_cons_succ,Va,wCmp,eq_nat]
  refine ⟨rfl,rfl,?_⟩
  simp only [wBlt,wBin]
  refine ⟨mul01 _ _,by simp [isCell],Zbx hj2 ?_⟩
  simp only [Wb,Yav]
  refine ⟨Vj 60 _,rfl,mul01 _ _,?_⟩
  have e2:(μ ++ [Cell.lst (((lawL l t S x).take j).map D.int)])[μ.length]? = some (.lst (((lawL l t S x).take j).map D.int)):=by simp
  simp only [Zx,e2,Zq,List.length_map,List.length_take]
  refine ⟨by simp only [lim]; omega,hN _ _ ⟨j + 1,_,_,hj2,rfl,?_,rfl⟩⟩
  have hjl:j < (lawL l t S x).length:=by simpa [lawL] using hj2
  have e3:(lawL l t S x).take (j + 1)=(lawL l t S x).take j ++ [(lawL l t S x)[j]]:=by rw [List.take_add_one,List.getElem?_eq_getElem hjl]; rfl
  have e4:(lawL l t S x)[j]=gt l j + x * (if j=t then 1 else 0) - x * (if j∈S then 1 else 0):=by simp [lawL]
  rw [e3,e4,Wb2,List.map_append]
  simp
 ·rintro ρ μ' ⟨j,v6,v7,hj,e1,rfl,rfl⟩
  have hj2:j=l.length:=by
   have:=congrArg List.length e1
   simp at this; omega
  subst hj2
  refine ⟨trivial,?_⟩
  have e2:(lawL l t S x).take l.length=lawL l t S x:=List.take_of_length_le (by simp [lawL])
  simp only [List.getElem?_cons_zero,List.getElem?_cons_succ,wBlt,Wb,e2]
  have e3:(μ ++ [Cell.lst ((lawL l t S x).map D.int)])[μ.length]? = some (.lst ((lawL l t S x).map D.int)):=by simp
  simp only [e3]
  exact q _
end DW.K58
end
section
namespace DW.K58
open PySem DW DW.K03
theorem Vbq {l:List Int} {x:Int}:∀ (S:List Nat) (b:Int),goB l x b (S.map Va)=true<->(∀ s∈S,b < (s:Int))/\S.Pairwise (· < ·)/\∀ s∈S,s < l.length/\x<=gt l s
 | [],b=>by simp [goB]
 | s :: S,b=>by
  have ih:=Vbq (l:=l) (x:=x) S (s:Int)
  simp only [List.map_cons,Va,goB,Bool.and_eq_true,decide_eq_true_eq,Int.toNat_natCast]
  have ih':goB l x (s:Int) (S.map Va)=true<->_:=ih
  rw [ih']
  rw [List.pairwise_cons]
  constructor
  ·rintro ⟨⟨_,h1⟩,h2,h3,h4,h5,h6⟩
   refine ⟨fun s' hs'=>?_,⟨fun s' hs'=>by have:=h4 s' hs'; omega,h5⟩,fun s' hs'=>?_⟩
   ·rcases List.mem_cons.mp hs' with rfl | hs'
    ·exact h2
    ·have:=h4 s' hs'; omega
   ·rcases List.mem_cons.mp hs' with rfl | hs'
    ·exact ⟨by omega,h3⟩
    ·exact h6 s' hs'
  ·rintro ⟨h1,⟨h2,h3⟩,h4⟩
   have a:=h4 s (by simp)
   exact ⟨⟨by omega,by have:=a.1; omega⟩,h1 s (by simp),a.2,fun s' hs'=>by have:=h2 s' hs'; omega,h3,fun s' hs'=>h4 s' (by simp [hs'])⟩
theorem ph_iff {l:List Int} {t:Nat} {S:List Nat} {x:Int}:phB l (phD t S x)=true<->isPh l t S x:=by
 have h:=Vbq (l:=l) (x:=x) S (-1)
 simp only [phB,phD,Va,intD,srcB,Bool.and_eq_true,decide_eq_true_eq,Int.toNat_natCast,List.length_map]
 rw [h]
 unfold isPh
 constructor
 ·rintro ⟨⟨_,h1⟩,h2,h3,h4,_,h5,h6⟩
  exact ⟨by omega,h2,h3,h4,h5,h6⟩
 ·rintro ⟨h1,h2,h3,h4,h5,h6⟩
  exact ⟨⟨by omega,by omega⟩,h2,h3,h4,fun s _=>by omega,h5,h6⟩
noncomputable def spL_is_phase:DSp:=fun ds μ Q=>∃ (l:List Int) (t:Nat) (S:List Nat) (x:Int),ds=[lvD l,phD t S x]/\l.length<=7/\(∀ s∈S,s < l.length)/\S.length<=100/\Q (.bl (phB l (phD t S x))) μ
noncomputable def nL_is_phase:List Str:=["layout","phase","target","sources","times"]
noncomputable def tlP2:Ss:=(.cons (.ret (.cmp .Eq (.comp false 1 false [0,4] (.var 0) (.seq (.var 3)) (.cons (.cmp .Lt (.idx (.var 1) (.var 0)) (.var 2)) .nil)) (.lst false .nil))) .nil)
noncomputable def tlP1:Ss:=(.cons (.ite (.cmp .NotEq (.lset (.var 3) true) (.blt "list" (.cons (.var 3) .nil))) (.cons (.ret (.cst (.bl false))) .nil) .nil) tlP2)
noncomputable def iL_is_phase:Ss:=(.cons (.setT [2,3,4] (.var 1)) (.cons (.ite (.or (.cmp .GtE (.var 2) (.blt "len" (.cons (.var 0) .nil))) (.or (.cmp .NotEq (.idx (.var 0) (.var 2)) (.cst (.int 0))) (.or (.cmp .Lt (.blt "len" (.cons (.var 3) .nil)) (.cst (.int 2))) (.or (.cmp .Lt (.var 4) (.cst (.int 1))) (.cmp .In (.var 2) (.var 3)))))) (.cons (.ret (.cst (.bl false))) .nil) .nil) tlP1))
theorem asc_one:∀ {a b:List Nat},a.Pairwise (· < ·)->b.Pairwise (· < ·)->(∀ x,x∈a<->x∈b)->a=b:=fun {a b} h1 h2 h=>by
 have na:a.Nodup:=h1.imp fun h=>Nat.ne_of_lt h
 have nb:b.Nodup:=h2.imp fun h=>Nat.ne_of_lt h
 have hp:a.Perm b:=(List.perm_ext_iff_of_nodup na nb).mpr h
 exact List.Perm.eq_of_pairwise (le:=(·<=·)) (fun x y _ _ a b=>Nat.le_antisymm a b) (h1.imp Nat.le_of_lt) (h2.imp Nat.le_of_lt) hp
section
variable {Z:DEnds} {μ:Mem} {l:List Int} {t:Nat} {S:List Nat} {x:Int} {r1:Option D}
theorem p2_ok (hS:∀ s∈S,s < l.length) (h:Z.rt (.bl (decide (∀ s∈S,x<=gt l s))) μ) :
  wSs tlP2 Z [some (lvD l),r1,some (Va t),some (.tup (S.map Va)),some (.int x)] μ:=by
 simp only [tlP2,wSs,wS,wE,wEs,wI,wSeq,newL,List.getElem?_cons_zero,List.getElem?_cons_succ,List.map_cons,List.map_nil]
 refine Vf (g:=fun _=>True) Va (fun s=>decide (gt l s < x)) Va trivial _ _ ?_ ?_
 ·intro s hs Y N q
  simp only [bindC,wTs,wT,wE,wCmp,List.getElem?_cons_zero,List.getElem?_cons_succ,Option.join_some,wBl]
  refine Zbx (hS s hs) ?_
  simp only [ltD]
  exact q
 ·rw [List.nil_append]
  refine ⟨by decide,?_⟩
  have ef:flat 60 (.lst ((S.filter fun s=>decide (gt l s < x)).map Va))=true:=by simp only [flat]; exact Vj _ _
  have en:eqD (.lst ((S.filter fun s=>decide (gt l s < x)).map Va)) (.lst [])=decide (∀ s∈S,x<=gt l s):=by
   rw [Bool.eq_iff_iff,decide_eq_true_eq]
   cases hF:S.filter fun s=>decide (gt l s < x) with
   | nil =>
    have:=List.filter_eq_nil_iff.mp hF
    constructor
    ·intro _ s hs
     have:=this s hs
     simp at this; omega
    ·intro _; rfl
   | cons a F =>
    have ha:a∈S.filter fun s=>decide (gt l s < x):=by rw [hF]; simp
    obtain ⟨h1,h2⟩:=List.mem_filter.mp ha
    have h2:=of_decide_eq_true h2
    constructor
    ·intro z; simp [eqD,eqDs] at z
    ·intro z; have:=z a h1; omega
  simp only [wCmp]
  refine ⟨ef,rfl,?_⟩
  rw [en]; exact h
theorem p1_ok (hl:l.length<=7) (hS:∀ s∈S,s < l.length) (h:Z.rt (.bl (decide (S.Pairwise (· < ·)/\∀ s∈S,x<=gt l s))) μ) :
  wSs tlP1 Z [some (lvD l),r1,some (Va t),some (.tup (S.map Va)),some (.int x)] μ:=by
 have p2':=fun h=>p2_ok (Z:=Z) (μ:=μ) (t:=t) (x:=x) (r1:=r1) hS h
 simp only [tlP1]
 generalize tlP2=G at p2'
 have hi:Vq (S.map Va)=some (S.map fun (k:Nat)=>(k:Int)):=by
  have e:S.map Va=(S.map fun (k:Nat)=>(k:Int)).map D.int:=by rw [List.map_map]; rfl
  rw [e]; exact Xbq _
 simp only [wSs,wS,wT,wE,wEs,List.getElem?_cons_zero,List.getElem?_cons_succ,Wby,hi]
 refine ⟨fun n hn=>?_,fun r hr hm=>?_⟩
 ·obtain ⟨s,hs,rfl⟩:=List.mem_map.mp hn
  have:=hS s hs; omega
 ·obtain ⟨R,rfl⟩:∃ R:List Nat,r=R.map fun (k:Nat)=>(k:Int):=by
   refine ⟨r.map Int.toNat,?_⟩
   rw [List.map_map]
   conv=>lhs; rw [<- List.map_id r]
   refine List.map_congr_left fun y hy=>?_
   obtain ⟨s,hs,rfl⟩:=List.mem_map.mp ((hm y).mp hy)
   simp
  have hR:R.Pairwise (· < ·):=by
   rw [List.pairwise_map] at hr
   exact hr.imp fun h=>by omega
  have hRS:∀ k,k∈R<->k∈S:=fun k=>by
   constructor
   ·intro h
    obtain ⟨j,hj,e⟩:=List.mem_map.mp ((hm (k:Int)).mp (List.mem_map.mpr ⟨k,h,rfl⟩))
    have:j=k:=by omega
    exact this ▸ hj
   ·intro h
    obtain ⟨j,hj,e⟩:=List.mem_map.mp ((hm (k:Int)).mpr (List.mem_map.mpr ⟨k,h,rfl⟩))
    have:j=k:=by omega
    exact this ▸ hj
  simp only [wBlt,Wb,wCmp,wBl]
  have e1:∀ T:List Nat,flat 60 (.lst ((T.map fun (k:Nat)=>(k:Int)).map D.int))=true:=fun T=>by
   simp only [flat,List.map_map]
   exact Vj _ T
  have e2:flat 60 (.lst (S.map Va))=true:=by simp only [flat]; exact Vj _ _
  refine ⟨e1 R,e2,?_⟩
  have e3:eqD (.lst ((R.map fun (k:Nat)=>(k:Int)).map D.int)) (.lst (S.map Va))=decide (R=S):=by
   have key:∀ a b:List Nat,eqDs (a.map Va) (b.map Va)=decide (a=b):=by
    intro a
    induction a with
    | nil=>intro b; cases b <;> simp [eqDs]
    | cons k a ih =>
     intro b
     cases b with
     | nil=>simp [eqDs]
     | cons j b=>simp only [List.map_cons,eqDs,ih,Va,eqD]; rw [Bool.eq_iff_iff]; simp; omega
   rw [show ((R.map fun (k:Nat)=>(k:Int)).map D.int)=R.map Va by rw [List.map_map]; rfl]
   simp only [eqD]
   exact key R S
  rw [e3]
  by_cases c:S.Pairwise (· < ·)
  ·have:R=S:=asc_one hR c hRS
   simp only [this,decide_true,Bool.not_true,Bool.false_eq_true,if_false]
   refine p2' ?_
   simpa [c] using h
  ·have:¬ R=S:=fun z=>c (z ▸ hR)
   simp only [this,decide_false,Bool.not_false,if_true]
   simpa [c] using h
end
theorem kL_is_phase:Keeps nL_is_phase iL_is_phase spL_is_phase:=by
 rintro ds μ Q ⟨l,t,S,x,rfl,hl,hS,hSl,h⟩
 have p1':∀ {Z:DEnds} {r1:Option D},Z.rt (.bl (decide (S.Pairwise (· < ·)/\∀ s∈S,x<=gt l s))) μ->wSs tlP1 Z [some (lvD l),r1,some (Va t),some (.tup (S.map Va)),some (.int x)] μ:=fun h=>p1_ok hl hS h
 simp only [iL_is_phase]
 generalize tlP1=G at p1'
 have hno:¬ isPh l t S x->Q (.bl false) μ:=fun z=>by
  have:phB l (phD t S x)=false:=by
   cases hb:phB l (phD t S x) with
   | false=>rfl
   | true=>exact absurd (ph_iff.mp hb) z
  rw [this] at h; exact h
 simp only [nL_is_phase,Zc,topZ,wSs,wS,wE,wEs,Yo,phD,List.map_cons,List.map_nil,List.length_cons,List.length_nil,List.cons_append,List.nil_append,List.getElem?_cons_zero,List.getElem?_cons_succ,List.replicate,List.zip_cons_cons,List.zip_nil_right,List.foldl_cons,List.foldl_nil,List.set_cons_zero,List.set_cons_succ]
 refine ⟨trivial,?_⟩
 have n1:lenOf μ (lvD l)=some l.length:=by simp [lenOf,lvD,Wb]
 have n2:lenOf μ (.tup (S.map Va))=some S.length:=by simp [lenOf,Wb]
 have hge:∀ (a b:Int) (Q:QD),wCmp .GtE (.int a) (.int b) μ Q=Q (.bl (decide (b<=a))) μ:=fun a b Q=>rfl
 have hlt:∀ (a b:Int) (Q:QD),wCmp .Lt (.int a) (.int b) μ Q=Q (.bl (decide (a < b))) μ:=fun a b Q=>rfl
 simp only [wT,wE,wEs,wBlt,n1,n2,List.getElem?_cons_zero,List.getElem?_cons_succ]
 rw [show Va t=D.int (t:Int) from rfl,hge]
 by_cases c1:t < l.length
 ·have c1':¬ (l.length:Int)<=(t:Int):=by omega
  simp only [c1',decide_false,wBl,Bool.false_eq_true,if_false]
  refine Zbx c1 ?_
  simp only [wCmp]
  refine ⟨rfl,rfl,?_⟩
  by_cases c2:gt l t=0
  ·have e2:eqD (.int (gt l t)) (.int 0)=true:=by simp [eqD,c2]
   simp only [e2,Bool.not_true,Bool.false_eq_true,if_false,n2,ltD]
   by_cases c3:(S.length:Int) < 2
   ·simp only [c3,decide_true,if_true]
    exact hno fun z=>by have:=z.2.2.2.1; omega
   ·simp only [c3,decide_false,Bool.false_eq_true,if_false]
    by_cases c4:x < 1
    ·simp only [c4,decide_true,if_true]
     exact hno fun z=>by have:=z.2.2.1; omega
    ·simp only [c4,decide_false,Bool.false_eq_true,if_false,Wb,Yav]
     refine ⟨Vj _ _,rfl,?_⟩
     by_cases c5:t∈S
     ·simp only [c5,decide_true,if_true]
      exact hno fun z=>by have:=(z.2.2.2.2.2 t c5).2; omega
     ·simp only [c5,decide_false,Bool.false_eq_true,if_false]
      refine p1' ?_
      have e9:phB l (phD t S x)=decide (S.Pairwise (· < ·)/\∀ s∈S,x<=gt l s):=by
       rw [Bool.eq_iff_iff,ph_iff,decide_eq_true_eq]
       unfold isPh
       constructor
       ·rintro ⟨_,_,_,_,h5,h6⟩; exact ⟨h5,fun s hs=>(h6 s hs).2⟩
       ·rintro ⟨h5,h6⟩; exact ⟨c1,c2,by omega,by omega,h5,fun s hs=>⟨hS s hs,h6 s hs⟩⟩
      rw [e9] at h
      exact h
  ·have e2:eqD (.int (gt l t)) (.int 0)=false:=by simp [eqD,c2]
   simp only [e2,Bool.not_false,if_true]
   exact hno fun z=>c2 z.2.1
 ·have c1':(l.length:Int)<=(t:Int):=by omega
  simp only [c1',decide_true,wBl,if_true]
  exact hno fun z=>c1 z.1
end DW.K58
end
section
namespace DW.K58
open PySem DW DW.K03
theorem lt_at {μ:Mem} {i:Nat} {c:Cell} (h:μ[i]? = some c):i < μ.length:=(List.getElem?_eq_some_iff.mp h).1
theorem Vak {μ:Mem} {n:Nat} (h:Xf μ n):n < μ.length:=by obtain ⟨b,q⟩:=h; exact lt_at q
theorem Vbv {μ:Mem} {n p:Nat} {c:Cell} (h:Xf μ n) (hp:p≠n):Xf (μ.set p c) n:=by
 obtain ⟨b,q⟩:=h
 exact ⟨b,by rw [List.getElem?_set_ne hp]; exact q⟩
theorem Zo {μ:Mem} {n:Nat} (ν:Mem) (h:Xf μ n):Xf (μ ++ ν) n:=by
 obtain ⟨b,q⟩:=h
 exact ⟨b,by rw [List.getElem?_append_left (lt_at q)]; exact q⟩
theorem Xat {μ:Mem} {n k:Nat} {b:Int} {c:Cell} (hk:k≠n) (h:μ[k]? = some c):(bx μ n b)[k]? = some c:=by
 unfold bx; rw [List.getElem?_set_ne (Ne.symm hk)]; exact h
theorem Xay {m:String} {n:Nat} {xs ds:List D} {μ:Mem} {Q:QD} (h:μ[n]? = some (.lst xs)) (z:Zq m n xs ds μ Q):Zx m (.loc n) ds μ Q:=by
 simp only [Zx,h]
 exact z
theorem Ybt {l:List D} {a b:Option Int} {x:D} (h:x∈cutD l a b):x∈l:=List.mem_of_mem_drop (List.mem_of_mem_take h)
theorem Xbt {l:List D} {a b:Option Int}:(cutD l a b).length<=l.length:=by
 unfold cutD
 rw [List.length_take,List.length_drop]
 omega
theorem Yaq {d:Nat}:∀ {xs:List D},(∀ x∈xs,∃ s:Nat,s < d/\x=Va s)->∃ S:List Nat,xs=S.map Va/\∀ s∈S,s < d
 | [],_=>⟨[],rfl,by simp⟩
 | x :: xs,h=>by
  obtain ⟨s,hs,rfl⟩:=h x (by simp)
  obtain ⟨S,rfl,hS⟩:=Yaq (xs:=xs) fun y hy=>h y (by simp [hy])
  exact ⟨s :: S,rfl,fun k hk=>by rcases List.mem_cons.mp hk with rfl | hk; exact hs; exact hS k hk⟩
theorem Vay {d:Nat} {S:List Nat} (h:∀ s∈S,s < d):∀ x∈S.map Va,∃ s:Nat,s < d/\x=Va s:=fun x hx=>by
 obtain ⟨s,hs,rfl⟩:=List.mem_map.mp hx
 exact ⟨s,h s hs,rfl⟩
noncomputable def spL_tried:DSp:=fun ds μ Q=>∃ (n:Nat) (l:List Int),ds=[.loc n,lvD l]/\Xf μ n/\1<=l.length/\l.length<=6/\∀ (t:Nat) (S:List Nat) (x:Int) μ',(∀ s∈S,s < l.length)->S.length<=100->0<=x->x < 4->Xf μ' n->Q (phD t S x) μ'
noncomputable def nL_tried:List Str:=["box","layout","drives","bare","target","sources","way"]
noncomputable def tlW4:Ss:=(.cons (.ret (.tup (.cons (.var 4) (.cons (.blt "tuple" (.cons (.var 5) .nil)) (.cons (.call "_law_take" spL_take (.cons (.var 0) (.cons (.cst (.int 4)) .nil))) .nil))))) .nil)
noncomputable def tlW3:Ss:=(.cons (.ite (.cmp .Gt (.var 6) (.cst (.int 4))) (.cons (.set 5 (.comp true 1 false [1] (.var 0) (.seq (.var 5)) (.cons (.cmp .Gt (.idx (.var 1) (.var 0)) (.cst (.int 0))) .nil))) .nil) .nil) tlW4)
noncomputable def tlW2:Ss:=(.cons (.ite (.cmp .Eq (.var 6) (.cst (.int 2))) (.cons (.set 5 (.slc true (.var 5) .nil (.cons (.cst (.int 1)) .nil))) .nil) .nil) tlW3)
noncomputable def tlW1:Ss:=(.cons (.ite (.cmp .Eq (.var 6) (.cst (.int 1))) (.cons (.set 5 (.cat true (.var 5) (.slc false (.var 5) (.cons (.neg (.cst (.int 1))) .nil) .nil))) .nil) .nil) tlW2)
noncomputable def tlW0:Ss:=(.cons (.ite (.cmp .Eq (.var 6) (.cst (.int 0))) (.cons (.exp (.meth "reverse" (.var 5) .nil)) .nil) .nil) tlW1)
noncomputable def tlV:Ss:=(.cons (.set 5 (.comp true 1 false [4,0] (.var 0) (.rng (.cons (.var 2) .nil)) (.cons (.and (.cmp .NotEq (.var 0) (.var 1)) (.cmp .Gt (.call "_law_take" spL_take (.cons (.var 2) (.cons (.cst (.int 3)) .nil))) (.cst (.int 0)))) .nil))) (.cons (.set 6 (.call "_law_take" spL_take (.cons (.var 0) (.cons (.cst (.int 8)) .nil)))) tlW0))
noncomputable def iL_tried:Ss:=(.cons (.set 2 (.blt "len" (.cons (.var 1) .nil))) (.cons (.set 3 (.comp false 1 false [1] (.var 0) (.rng (.cons (.var 2) .nil)) (.cons (.cmp .Eq (.idx (.var 1) (.var 0)) (.cst (.int 0))) .nil))) (.cons (.set 4 (.call "_law_take" spL_take (.cons (.var 0) (.cons (.bin .Add (.var 2) (.cst (.int 1))) .nil)))) (.cons (.ite (.and (.cmp .NotEq (.var 3) (.lst false .nil)) (.cmp .Gt (.call "_law_take" spL_take (.cons (.var 0) (.cons (.cst (.int 4)) .nil))) (.cst (.int 0)))) (.cons (.set 4 (.idx (.var 3) (.call "_law_take" spL_take (.cons (.var 0) (.cons (.blt "len" (.cons (.var 3) .nil)) .nil))))) .nil) .nil) tlV))))
section
variable {Q:QD} {μ:Mem} {n p t B:Nat} {l:List Int} {S:List Nat} {w:Int} {r2 r3:Option D}
structure Ws (n p:Nat) (l:List Int) (S:List Nat) (B:Nat) (μ:Mem):Prop where
 bx:Xf μ n
 ne:p≠n
 at_:μ[p]? = some (.lst (S.map Va))
 lt:∀ s∈S,s < l.length
 len:S.length<=B
noncomputable abbrev Go (Q:QD) (n:Nat) (l:List Int):Prop:=∀ (t:Nat) (S:List Nat) (x:Int) μ',(∀ s∈S,s < l.length)->S.length<=100->0<=x->x < 4->Xf μ' n->Q (phD t S x) μ'
theorem w4 (h:Ws n p l S 100 μ) (hq:Go Q n l):wSs tlW4 (topZ Q) [some (.loc n),some (lvD l),r2,r3,some (Va t),some (.loc p),some (.int w)] μ:=by
 simp only [tlW4,topZ,wSs,wS,wE,wEs,wBlt,List.getElem?_cons_zero,List.getElem?_cons_succ,Wb,h.at_]
 refine ⟨h.bx,by decide,by decide,fun x b x0 x1=>?_⟩
 refine ⟨by simp [lim],?_⟩
 exact hq t S x _ h.lt h.len x0 x1 (Wf h.bx)
theorem w3 (h:Ws n p l S 100 μ) (hq:Go Q n l):wSs tlW3 (topZ Q) [some (.loc n),some (lvD l),r2,r3,some (Va t),some (.loc p),some (.int w)] μ:=by
 have g4:∀ {p S μ},Ws n p l S 100 μ->wSs tlW4 (topZ Q) [some (.loc n),some (lvD l),r2,r3,some (Va t),some (.loc p),some (.int w)] μ:=fun h=>w4 h hq
 simp only [tlW3]
 generalize tlW4=G at g4
 simp only [wSs,wS,wT,wE,wEs,wI,wSeq,wCmp,ltD,wBl,newL,List.getElem?_cons_zero,List.getElem?_cons_succ,List.map_cons,List.map_nil,h.at_]
 by_cases c:(4:Int) < w
 ·simp only [c,decide_true,if_true]
  refine Vf (g:=fun μ'=>μ'[p]? = some (Cell.lst (S.map Va))) Va (fun s=>decide (0 < gt l s)) Va h.at_ _ _ ?_ ?_
  ·intro s hs Y N q
   simp only [bindC,wTs,wT,wE,wCmp,List.getElem?_cons_zero,List.getElem?_cons_succ,Option.join_some,wBl]
   refine Zbx (h.lt s hs) ?_
   simp only [ltD]
   exact q
  ·simp only [List.nil_append,List.set_cons_zero,List.set_cons_succ]
   have hl:=List.length_filter_le (fun s=>decide (0 < gt l s)) S
   have hln:=h.len
   exact g4 (S:=S.filter fun s=>decide (0 < gt l s)) ⟨Zo _ h.bx,by have:=Vak h.bx; omega,by simp,fun s hs=>h.lt s (List.mem_filter.mp hs).1,by omega⟩
 ·simp only [c,decide_false,Bool.false_eq_true,if_false]
  exact g4 h
theorem w2 (h:Ws n p l S 100 μ) (hq:Go Q n l):wSs tlW2 (topZ Q) [some (.loc n),some (lvD l),r2,r3,some (Va t),some (.loc p),some (.int w)] μ:=by
 have g3:∀ {p S μ},Ws n p l S 100 μ->wSs tlW3 (topZ Q) [some (.loc n),some (lvD l),r2,r3,some (Va t),some (.loc p),some (.int w)] μ:=fun h=>w3 h hq
 simp only [tlW2]
 generalize tlW3=G at g3
 simp only [wSs,wS,wT,wE,wEs,wO,wInt,wSlc,wCmp,wBl,newL,List.getElem?_cons_zero,List.getElem?_cons_succ,h.at_]
 refine ⟨rfl,rfl,?_⟩
 cases hb:eqD (.int w) (.int 2) with
 | true =>
  simp only [if_true,List.set_cons_zero,List.set_cons_succ]
  obtain ⟨T,e,hT⟩:=Yaq (d:=l.length) (xs:=cutD (S.map Va) none (some 1)) fun x hx=>Vay h.lt x (Ybt hx)
  have hl:(cutD (S.map Va) none (some 1)).length<=(S.map Va).length:=Xbt
  rw [e] at hl ⊢
  simp only [List.length_map] at hl
  have hln:=h.len
  exact g3 ⟨Zo _ h.bx,by have:=Vak h.bx; omega,by simp,hT,by omega⟩
 | false =>
  simp only [Bool.false_eq_true,if_false]
  exact g3 h
theorem w1 (h:Ws n p l S 50 μ) (hq:Go Q n l):wSs tlW1 (topZ Q) [some (.loc n),some (lvD l),r2,r3,some (Va t),some (.loc p),some (.int w)] μ:=by
 have g2:∀ {p S μ},Ws n p l S 100 μ->wSs tlW2 (topZ Q) [some (.loc n),some (lvD l),r2,r3,some (Va t),some (.loc p),some (.int w)] μ:=fun h=>w2 h hq
 simp only [tlW1]
 generalize tlW2=G at g2
 simp only [wSs,wS,wT,wE,wEs,wO,wInt,wSlc,wCmp,wBl,newL,wCat,wlOf,List.getElem?_cons_zero,List.getElem?_cons_succ,h.at_]
 refine ⟨rfl,rfl,?_⟩
 have hln:=h.len
 cases hb:eqD (.int w) (.int 1) with
 | true =>
  simp only [if_true,List.set_cons_zero,List.set_cons_succ]
  obtain ⟨T,e,hT⟩:=Yaq (d:=l.length) (xs:=cutD (S.map Va) (some (-1)) none) fun x hx=>Vay h.lt x (Ybt hx)
  have hl:(cutD (S.map Va) (some (-1)) none).length<=(S.map Va).length:=Xbt
  rw [e] at hl ⊢
  simp only [List.length_map] at hl
  refine ⟨by simp only [List.length_map,lim]; omega,?_⟩
  rw [<- List.map_append]
  exact g2 (S:=S ++ T) ⟨Zo _ h.bx,by have:=Vak h.bx; omega,by simp,fun s hs=>by
   rcases List.mem_append.mp hs with hs | hs
   ·exact h.lt s hs
   ·exact hT s hs,by simp; omega⟩
 | false =>
  simp only [Bool.false_eq_true,if_false]
  exact g2 ⟨h.bx,h.ne,h.at_,h.lt,by omega⟩
theorem w0 (h:Ws n p l S 50 μ) (hq:Go Q n l):wSs tlW0 (topZ Q) [some (.loc n),some (lvD l),r2,r3,some (Va t),some (.loc p),some (.int w)] μ:=by
 have g1:∀ {p S μ},Ws n p l S 50 μ->wSs tlW1 (topZ Q) [some (.loc n),some (lvD l),r2,r3,some (Va t),some (.loc p),some (.int w)] μ:=fun h=>w1 h hq
 simp only [tlW0]
 generalize tlW1=G at g1
 simp only [wSs,wS,wT,wE,wEs,wCmp,wBl,List.getElem?_cons_zero,List.getElem?_cons_succ]
 refine ⟨rfl,rfl,?_⟩
 cases hb:eqD (.int w) (.int 0) with
 | true =>
  simp only [if_true]
  refine ⟨by simp [isCell,h.at_],?_⟩
  refine Xay h.at_ ?_
  simp only [Zq]
  rw [<- List.map_reverse]
  exact g1 ⟨Vbv h.bx h.ne,h.ne,List.getElem?_set_self (lt_at h.at_),fun s hs=>h.lt s (by simpa using hs),by have:=h.len; simpa using this⟩
 | false =>
  simp only [Bool.false_eq_true,if_false]
  exact g1 h
theorem wv (hb:Xf μ n) (hl:l.length<=6) (hq:Go Q n l) {v5 v6:Option D}:wSs tlV (topZ Q) [some (.loc n),some (lvD l),some (.int (l.length:Nat)),r3,some (Va t),v5,v6] μ:=by
 have g0:∀ {p S μ w},Ws n p l S 50 μ->wSs tlW0 (topZ Q) [some (.loc n),some (lvD l),some (.int (l.length:Nat)),r3,some (Va t),some (.loc p),some (.int w)] μ:=fun h=>w0 h hq
 simp only [tlV]
 generalize tlW0=G at g0
 simp only [wSs,wS,wE,wEs,wI,wRng,Xv,newL,List.getElem?_cons_zero,List.getElem?_cons_succ,List.map_cons,List.map_nil]
 refine ⟨by simp only [lim]; omega,by omega,?_⟩
 refine Wy (fun ds acc μ'=>∃ S:List Nat,acc=S.map Va/\(∀ s∈S,s < l.length)/\Xf μ' n/\(∀ x∈ds,∃ s:Nat,s < l.length/\x=Va s)/\S.length + ds.length<=l.length) ?_ ?_ _ _ _ ⟨[],rfl,by simp,hb,fun x hx=>?_,by simp [Zj]⟩
 ·rintro x ds acc μ1 Y N hY hN ⟨S,rfl,hS,hb1,hds,hlen⟩
  refine ⟨trivial,?_⟩
  obtain ⟨s,hs,rfl⟩:=hds x (by simp)
  simp only [List.length_cons] at hlen
  have hds':∀ x∈ds,∃ s:Nat,s < l.length/\x=Va s:=fun x hx=>hds x (by simp [hx])
  simp only [bindC,wTs,wT,wE,wEs,wCmp,List.getElem?_cons_zero,List.getElem?_cons_succ,Option.join_some,wBl]
  refine ⟨rfl,rfl,?_⟩
  cases hc:eqD (Va s) (Va t) with
  | true =>
   simp only [Bool.not_true,Bool.false_eq_true,if_false]
   exact hN _ ⟨S,rfl,hS,hb1,hds',by omega⟩
  | false =>
   simp only [Bool.not_false,if_true]
   refine ⟨hb1,by decide,by decide,fun y b y0 y1=>?_⟩
   simp only [ltD]
   by_cases c:(0:Int) < y
   ·simp only [c,decide_true,if_true]
    exact hY _ _ ⟨S ++ [s],by simp,fun k hk=>by
     rcases List.mem_append.mp hk with hk | hk
     ·exact hS k hk
     ·simp at hk; omega,Wf hb1,hds',by simp; omega⟩
   ·simp only [c,decide_false,Bool.false_eq_true,if_false]
    exact hN _ ⟨S,rfl,hS,Wf hb1,hds',by omega⟩
 ·rintro acc μ1 ⟨S,rfl,hS,hb1,_,hlen⟩
  refine ⟨trivial,?_⟩
  simp only [List.set_cons_zero,List.set_cons_succ,List.getElem?_cons_zero,List.getElem?_cons_succ]
  have hb2:Xf (μ1 ++ [Cell.lst (S.map Va)]) n:=Zo _ hb1
  have hne:μ1.length≠n:=by have:=Vak hb1; omega
  refine ⟨hb2,by decide,by decide,fun w b w0 w1=>?_⟩
  exact g0 ⟨Wf hb2,hne,Xat hne (by simp),hS,by omega⟩
 ·obtain ⟨i,rfl,i0,i1⟩:=Y7 hx
  exact ⟨i.toNat,by omega,by simp only [Va]; congr 1; omega⟩
end
theorem kL_tried:Keeps nL_tried iL_tried spL_tried:=by
 rintro ds μ Q ⟨n,l,rfl,hb,hl1,hl2,hq⟩
 have gv:∀ {μ:Mem} {r3:Option D} {t:Nat} {v5 v6:Option D},Xf μ n->wSs tlV (topZ Q) [some (.loc n),some (lvD l),some (.int (l.length:Nat)),r3,some (Va t),v5,v6] μ:=fun h=>wv h hl2 hq
 simp only [iL_tried]
 generalize tlV=G at gv
 have n1:lenOf μ (lvD l)=some l.length:=by simp [lenOf,lvD,Wb]
 simp only [nL_tried,Zc,topZ,wSs,wS,wE,wEs,wI,wRng,Xv,newL,wBlt,n1,List.map_cons,List.map_nil,List.length_cons,List.length_nil,List.cons_append,List.nil_append,List.getElem?_cons_zero,List.getElem?_cons_succ,List.replicate,List.set_cons_zero,List.set_cons_succ]
 refine ⟨by simp only [lim]; omega,by omega,?_⟩
 rw [Int.toNat_natCast,show Zj 0 l.length=(List.range l.length).map Va by simp [Zj,Va]]
 refine Vf (g:=fun _=>True) Va (fun s=>decide (gt l s=0)) Va trivial _ _ ?_ ?_
 ·intro s hs Y N q
  simp only [bindC,wTs,wT,wE,wCmp,List.getElem?_cons_zero,List.getElem?_cons_succ,Option.join_some,wBl]
  refine Zbx (by simpa using hs) ?_
  refine ⟨rfl,rfl,?_⟩
  have:eqD (.int (gt l s)) (.int 0)=decide (gt l s=0):=by rw [Bool.eq_iff_iff]; simp [eqD]
  rw [this]; exact q
 ·rw [List.nil_append]
  have hBl:((List.range l.length).filter (fun s=>decide (gt l s=0))).length<=6:=by
   have:=List.length_filter_le (fun s=>decide (gt l s=0)) (List.range l.length)
   simp at this; omega
  generalize (List.range l.length).filter (fun s=>decide (gt l s=0))=Bs at hBl
  simp only [wBin,List.set_cons_zero,List.set_cons_succ,List.getElem?_cons_zero,List.getElem?_cons_succ]
  refine ⟨hb,by omega,by omega,fun t b t0 t1=>?_⟩
  obtain ⟨t,rfl⟩:∃ k:Nat,t=(k:Int):=⟨t.toNat,by omega⟩
  have hb1:=Wf (b:=b) hb
  simp only [wT,wE,wEs,wCmp,newL,wBl,List.set_cons_zero,List.set_cons_succ,List.getElem?_cons_zero,List.getElem?_cons_succ]
  have ef:flat 60 (.lst (Bs.map Va))=true:=by simp only [flat]; exact Vj _ _
  refine ⟨by decide,ef,rfl,?_⟩
  cases Bs with
  | nil =>
   have e0:eqD (.lst (([]:List Nat).map Va)) (.lst [])=true:=rfl
   simp only [e0,Bool.not_true,Bool.false_eq_true,if_false]
   exact gv hb1
  | cons k Bs =>
   have e0:eqD (.lst ((k :: Bs).map Va)) (.lst [])=false:=rfl
   simp only [e0,Bool.not_false,if_true]
   refine ⟨hb1,by decide,by decide,fun y b2 y0 y1=>?_⟩
   have hb2:=Wf (b:=b2) hb1
   simp only [ltD]
   by_cases c:(0:Int) < y
   ·simp only [c,decide_true,if_true,lenOf,Wb,Option.map_some,List.length_map,List.length_cons]
    refine ⟨hb2,by omega,?_,fun z b3 z0 z1=>?_⟩
    ·simp only [List.length_cons] at hBl; omega
    ·have hz:z.toNat < (k :: Bs).length:=by simp; omega
     have ei:ixD ((k :: Bs).map Va).length z=some z.toNat:=by rw [List.length_map]; exact Xa0 z0 (by simp; omega)
     have eg:((k :: Bs).map Va)[z.toNat]? = some (Va ((k :: Bs)[z.toNat])):=by rw [List.getElem?_map,List.getElem?_eq_getElem hz]; rfl
     simp only [wIdx,Wb,ei,Option.bind_some,eg]
     exact gv (Wf hb2)
   ·simp only [c,decide_false,Bool.false_eq_true,if_false]
    exact gv hb2
end DW.K58
end
section
namespace DW.K58
open PySem DW DW.K03
noncomputable def spL_layout:DSp:=fun ds μ Q=>∃ (n k:Nat) (m:Int),ds=[.loc n,.int (k:Int),.int m]/\Xf μ n/\3<=k/\k<=6/\0<=m/\m<=12/\∀ (l:List Int) μ',l.length=k->Xf μ' n->Q (lvD l) μ'
noncomputable def nL_layout:List Str:=["box","drives","most","left","found","k","part","turn"]
noncomputable def tlL1:Ss:=(.cons (.set 7 (.call "_law_take" spL_take (.cons (.var 0) (.cons (.var 1) .nil)))) (.cons (.ret (.blt "tuple" (.cons (.cat false (.slc false (.var 4) (.cons (.var 7) .nil) .nil) (.slc false (.var 4) .nil (.cons (.var 7) .nil))) .nil))) .nil))
noncomputable def tlL0:Ss:=(.cons (.set 6 (.blt "min" (.cons (.var 3) (.cons (.idx (.lst false (.cons (.cst (.int 0)) (.cons (.cst (.int 1)) (.cons (.cst (.int 2)) (.cons (.cst (.int 3)) (.cons (.var 3) .nil)))))) (.call "_law_take" spL_take (.cons (.var 0) (.cons (.cst (.int 5)) .nil)))) .nil)))) (.cons (.set 3 (.bin .Sub (.var 3) (.var 6))) (.cons (.exp (.meth "append" (.var 4) (.cons (.var 6) .nil))) .nil)))
noncomputable def iL_layout:Ss:=(.cons (.set 3 (.call "_law_take" spL_take (.cons (.var 0) (.cons (.bin .Add (.var 2) (.cst (.int 1))) .nil)))) (.cons (.set 4 (.lst true .nil)) (.cons (.for_ [5] false (.rng (.cons (.var 1) .nil)) tlL0) tlL1)))
theorem idx5 {left w:Int} {μ:Mem} {Q:QD} (w0:0<=w) (w5:w < 5) (q:∀ c:Int,Q (.int c) μ):wIdx (.lst [.int 0,.int 1,.int 2,.int 3,.int left]) (.int w) μ Q:=by
 have hw:w=0∨w=1∨w=2∨w=3∨w=4:=by omega
 rcases hw with rfl | rfl | rfl | rfl | rfl
 ·exact q 0
 ·exact q 1
 ·exact q 2
 ·exact q 3
 ·exact q left
theorem l0_ok {Z:DEnds} {n f:Nat} {l:List Int} {μ:Mem} {left:Int} {r1 r2 r5 r6 r7:Option D} (hb:Xf μ n) (hf:μ[f]? = some (.lst (l.map D.int))) (hl:l.length<=100) (hne:f≠n)
  (h:∀ μ' (p left':Int) r6,Xf μ' n->μ'[f]? = some (.lst ((l ++ [p]).map D.int))->Z.nx [some (.loc n),r1,r2,some (.int left'),some (.loc f),r5,r6,r7] μ') :
  wSs tlL0 Z [some (.loc n),r1,r2,some (.int left),some (.loc f),r5,r6,r7] μ:=by
 simp only [tlL0,wSs,wS,wE,wEs,newL,List.length_cons,List.length_nil,List.getElem?_cons_zero,List.getElem?_cons_succ]
 refine ⟨by decide,hb,by decide,by decide,fun w b w0 w5=>idx5 w0 w5 fun c=>?_⟩
 simp only [wBlt,wBin,List.set_cons_zero,List.set_cons_succ,List.getElem?_cons_zero,List.getElem?_cons_succ]
 generalize (if c < left then c else left)=p
 have hf2:=Xat (b:=b) hne hf
 have hb2:=Wf (b:=b) hb
 generalize bx μ n b=μ2 at hf2 hb2
 refine ⟨by simp [isCell,hf2],Xay hf2 ?_⟩
 simp only [Zq]
 refine ⟨by simp only [List.length_map,lim]; omega,?_⟩
 exact h _ p _ _ (Vbv hb2 hne) (by rw [List.getElem?_set_self (lt_at hf2)]; simp)
theorem kL_layout:Keeps nL_layout iL_layout spL_layout:=by
 rintro ds μ Q ⟨n,k,m,rfl,hb,k1,k2,m1,m2,hq⟩
 have l0':∀ {Z:DEnds} {f:Nat} {l:List Int} {μ:Mem} {left:Int} {r1 r2 r5 r6 r7:Option D},Xf μ n->μ[f]? = some (.lst (l.map D.int))->l.length<=100->f≠n->(∀ μ' (p left':Int) r6,Xf μ' n->μ'[f]? = some (.lst ((l ++ [p]).map D.int))->Z.nx [some (.loc n),r1,r2,some (.int left'),some (.loc f),r5,r6,r7] μ')->wSs tlL0 Z [some (.loc n),r1,r2,some (.int left),some (.loc f),r5,r6,r7] μ:=fun a b c d e=>l0_ok a b c d e
 simp only [iL_layout]
 generalize tlL0=G at l0'
 simp only [nL_layout,Zc,topZ,wSs,wS,wE,wEs,wI,wBin,newL,wRng,Xv,List.map_cons,List.map_nil,List.length_cons,List.length_nil,List.cons_append,List.nil_append,List.getElem?_cons_zero,List.getElem?_cons_succ,List.replicate,List.set_cons_succ,List.set_cons_zero]
 refine ⟨hb,by omega,by omega,fun v b1 v0 v1=>⟨by decide,by simp only [lim]; omega,by omega,?_⟩⟩
 have hb1:=Wf (b:=b1) hb
 generalize bx μ n b1=μ1 at hb1
 have hlt:=Vak hb1
 refine Xg (fun ds ρ μ'=>∃ (l:List Int) (left:Int) (x5 x6 x7:Option D),ρ=[some (.loc n),some (.int (k:Int)),some (.int m),some (.int left),some (.loc μ1.length),x5,x6,x7]/\Xf μ' n/\μ'[μ1.length]? = some (.lst (l.map D.int))/\l.length + ds.length=k) ?_ ?_ _ _ _ ⟨[],v,none,none,none,rfl,Zo _ hb1,by simp,by simp [Zj]⟩
 ·rintro d ds ρ μ2 N hN ⟨l,left,x5,x6,x7,rfl,hb2,hf,hl⟩
  refine ⟨trivial,?_⟩
  simp only [List.length_cons] at hl
  simp only [Yo,List.set_cons_succ,List.set_cons_zero]
  exact l0' hb2 hf (by omega) (by omega) fun μ' p left' r6 h1 h2=>hN _ _ ⟨l ++ [p],left',_,_,_,rfl,h1,h2,by simp; omega⟩
 ·rintro ρ μ2 ⟨l,left,x5,x6,x7,rfl,hb2,hf,hl⟩
  refine ⟨trivial,?_⟩
  simp only [List.length_nil,Nat.add_zero] at hl
  simp only [tlL1,wSs,wS,wE,wEs,List.set_cons_succ,List.set_cons_zero,List.getElem?_cons_zero,List.getElem?_cons_succ]
  refine ⟨hb2,by omega,by omega,fun t b t0 t1=>?_⟩
  obtain ⟨t,rfl⟩:∃ j:Nat,t=(j:Int):=⟨t.toNat,by omega⟩
  have hf3:=Xat (b:=b) (show μ1.length≠n by omega) hf
  have hb3:=Wf (b:=b) hb2
  generalize bx μ2 n b=μ3 at hf3 hb3
  have e1:cutD (l.map D.int) (some (t:Int)) none=(l.drop t).map D.int:=by
   have h0:¬ ((t:Int) < 0):=by omega
   simp only [cutD,sIxD,h0,if_false,Int.toNat_natCast]
   rw [List.take_of_length_le (by simp),Nat.min_eq_left (by simp; omega),List.map_drop]
  have e2:cutD (l.map D.int) none (some (t:Int))=(l.take t).map D.int:=by
   have h0:¬ ((t:Int) < 0):=by omega
   simp only [cutD,sIxD,h0,if_false,Int.toNat_natCast,List.drop_zero,Nat.sub_zero]
   rw [Nat.min_eq_left (by simp; omega),List.map_take]
  simp only [wO,wE,wInt,wSlc,hf3,newL,e1,e2,wCat,wlOf,wBlt,Wb,List.set_cons_succ,List.set_cons_zero,List.getElem?_cons_zero,List.getElem?_cons_succ,List.length_map]
  refine ⟨by simp only [List.length_drop,List.length_take,lim]; omega,?_⟩
  rw [<- List.map_append]
  exact hq (l.drop t ++ l.take t) _ (by simp; omega) hb3
noncomputable def n_law:List Str:=["script","k","box","layout","turn","phase","due","found"]
noncomputable def tlB:Ss:=(.cons (.set 7 (.call "_law_told" spL_told (.cons (.var 3) (.cons (.var 5) .nil)))) (.cons (.ite (.or (.cmp .NotEq (.var 7) (.var 6)) (.cmp .NotEq (.isin (.var 7) "tuple") (.isin (.var 6) "tuple"))) (.cons (.ret (.cst (.bl false))) .nil) .nil) (.cons (.ite (.isin (.var 6) "tuple") (.cons (.set 3 (.var 6)) .nil) .nil) .nil)))
noncomputable def tlA:Ss:=(.cons (.set 5 (.call "_law_tried" spL_tried (.cons (.var 2) (.cons (.var 3) .nil)))) (.cons (.set 6 (.lst false (.cons (.cst (.int 5)) .nil))) (.cons (.ite (.call "_law_is_phase" spL_is_phase (.cons (.var 3) (.cons (.var 5) .nil))) (.cons (.set 6 (.call "_law_led" spL_led (.cons (.var 3) (.cons (.var 5) .nil)))) .nil) .nil) tlB)))
noncomputable def i_law:Ss:=(.cons (.for_ [1] false (.rng (.cons (.blt "max" (.cons (.cst (.int 1)) (.cons (.blt "min" (.cons (.blt "len" (.cons (.var 0) .nil)) (.cons (.cst (.int 3)) .nil))) .nil))) .nil)) (.cons (.set 2 (.call "_law_box" spL_box (.cons (.var 0) (.cons (.var 1) .nil)))) (.cons (.set 3 (.call "_law_layout" spL_layout (.cons (.var 2) (.cons (.bin .Add (.cst (.int 3)) (.call "_law_take" spL_take (.cons (.var 2) (.cons (.cst (.int 4)) .nil)))) (.cons (.cst (.int 12)) .nil))))) (.cons (.for_ [4] false (.rng (.cons (.cst (.int 10)) .nil)) tlA) .nil)))) (.cons (.ret (.cst (.bl true))) .nil))
theorem okP_ph {μ:Mem} {t:Nat} {S:List Nat} {x:Int}:okP μ (phD t S x):=by
 refine ⟨trivial,?_⟩
 intro es e f hf
 obtain rfl:es=[Va t,.tup (S.map Va),.int x]:=by cases e; rfl
 simp only [List.mem_cons,List.not_mem_nil,or_false] at hf
 rcases hf with rfl | rfl | rfl
 ·exact ⟨trivial,fun fs z=>by cases z⟩
 ·refine ⟨trivial,fun fs z g hg=>?_⟩
  cases z
  obtain ⟨n,_,rfl⟩:=List.mem_map.mp hg
  exact trivial
 ·exact ⟨trivial,fun fs z=>by cases z⟩
theorem lv_flat (l:List Int) (n:Nat):flat (n + 1) (lvD l)=true:=by
 simp only [lvD,flat]
 induction l with
 | nil=>rfl
 | cons a l ih=>simp [flats,flat,ih]
theorem led_len {l:List Int} {t:Nat} {S:List Nat} {x:Int}:(ledF l t S x).length=l.length:=by simp [ledF]
section
variable {Z:DEnds} {μ:Mem} {n:Nat} {l:List Int} {r0 r1 r4 v7:Option D}
theorem turn_ok (hb:Xf μ n) (l1:3<=l.length) (l2:l.length<=6) {v5 v6:Option D}
  (hZ:∀ (l':List Int) μ' v5 v6 v7,l'.length=l.length->Xf μ' n->Z.nx [r0,r1,some (.loc n),some (lvD l'),r4,v5,v6,v7] μ') :
  wSs tlA Z [r0,r1,some (.loc n),some (lvD l),r4,v5,v6,v7] μ:=by
 simp only [tlA,wSs,wS,wT,wE,wEs,newL,List.length_cons,List.length_nil,List.getElem?_cons_zero,List.getElem?_cons_succ,List.set_cons_zero,List.set_cons_succ]
 refine ⟨n,l,rfl,hb,by omega,l2,fun t S x μ1 hS hSl x0 x4 hb1=>?_⟩
 simp only [List.set_cons_zero,List.set_cons_succ,List.getElem?_cons_zero,List.getElem?_cons_succ]
 refine ⟨by decide,?_⟩
 refine ⟨l,t,S,x,rfl,by omega,hS,hSl,?_⟩
 cases hp:phB l (phD t S x) with
 | true =>
  have P:=ph_iff.mp hp
  simp only [wTru,truth,if_true]
  refine ⟨l,t,S,x,rfl,P,by omega,x0,by omega,fun c=>?_⟩
  have ef:=lv_flat (ledF l t S x) 59
  have ee:=Ya2 60 _ ef
  have et:∀ (l:List Int) (μ:Mem),tyOf μ (lvD l)=some "tuple":=fun l μ=>rfl
  simp only [tlB,wSs,wS,wT,wE,wEs,List.set_cons_zero,List.set_cons_succ,List.getElem?_cons_zero,List.getElem?_cons_succ]
  refine .inl ⟨l,t,S,x,rfl,P,fun ν=>?_⟩
  simp only [List.set_cons_zero,List.set_cons_succ,List.getElem?_cons_zero,List.getElem?_cons_succ]
  simp only [wCmp]
  refine ⟨ef,ef,?_⟩
  have eb:eqD (.bl true) (.bl true)=true:=rfl
  simp only [ee,Bool.not_true,wBl,Bool.false_eq_true,if_false,Yn,et,isTy,beq_self_eq_true,Bool.true_or]
  refine ⟨rfl,rfl,?_⟩
  simp only [eb,Bool.not_true,Bool.false_eq_true,if_false,if_true]
  exact hZ _ _ _ _ _ led_len (Zo _ (Zo _ hb1))
 | false =>
  simp only [wTru,truth,Bool.false_eq_true,if_false]
  simp only [tlB,wSs,wS,wT,wE,wEs,List.set_cons_zero,List.set_cons_succ,List.getElem?_cons_zero,List.getElem?_cons_succ]
  refine .inr ⟨l,phD t S x,rfl,okP_ph,hp,fun ν=>?_⟩
  simp only [List.set_cons_zero,List.set_cons_succ,List.getElem?_cons_zero,List.getElem?_cons_succ]
  have ee:eqD (.lst [.int 5]) (.lst [.int 5])=true:=rfl
  have et:∀ μ:Mem,tyOf μ (.lst [.int 5])=some "list":=fun μ=>rfl
  have ei:isTy "list" "tuple" = false:=rfl
  simp only [wCmp]
  refine ⟨rfl,rfl,?_⟩
  have eb:eqD (.bl false) (.bl false)=true:=rfl
  simp only [ee,Bool.not_true,wBl,Bool.false_eq_true,if_false,Yn,et,ei]
  refine ⟨rfl,rfl,?_⟩
  simp only [eb,Bool.not_true,Bool.false_eq_true,if_false]
  exact hZ _ _ _ _ _ rfl (Zo _ hb1)
end
theorem k_law:Keeps n_law i_law spLaw:=by
 rintro ds μ Q ⟨ns,rfl,hl,h⟩
 have hlo:(ns.length:Int)<=63:=by omega
 have key:∀ {Z:DEnds} {μ:Mem} {n:Nat} {l:List Int} {r1 r4 v5 v6 v7:Option D},Xf μ n->3<=l.length->l.length<=6->(∀ (l':List Int) μ' v5 v6 v7,l'.length=l.length->Xf μ' n->Z.nx [some (.ro (ns.map D.int)),r1,some (.loc n),some (lvD l'),r4,v5,v6,v7] μ')->wSs tlA Z [some (.ro (ns.map D.int)),r1,some (.loc n),some (lvD l),r4,v5,v6,v7] μ:=fun a b c d=>turn_ok a b c d
 simp only [i_law]
 generalize tlA=G at key
 simp only [n_law,Zc,topZ,wSs,wS,wE,wEs,wI,wBlt,lenOf,Wb,wRng,Xv,List.map_cons,List.map_nil,List.length_cons,List.length_nil,List.cons_append,List.nil_append,List.getElem?_cons_zero,List.length_map,Option.map_some,List.replicate]
 refine ⟨?_,?_,?_⟩
 ·simp only [lim]; split <;> split <;> omega
 ·split <;> split <;> omega
 refine Xg (fun ds ρ μ'=>(∀ d∈ds,∃ i:Int,d = .int i/\0<=i)/\∃ v1 v2 v3 v4 v5 v6 v7,ρ=[some (.ro (ns.map D.int)),v1,v2,v3,v4,v5,v6,v7]) ?_ ?_ _ _ _ ⟨?_,none,none,none,none,none,none,none,rfl⟩
 ·rintro d ds ρ μ1 N hN ⟨hd,v1,v2,v3,v4,v5,v6,v7,rfl⟩
  obtain ⟨k,rfl,k0⟩:=hd d (by simp)
  have nx:∀ ρ μ,(∃ v1 v2 v3 v4 v5 v6 v7,ρ=[some (.ro (ns.map D.int)),v1,v2,v3,v4,v5,v6,v7])->N ρ μ:=fun ρ μ q=>hN ρ μ ⟨fun d hd'=>hd d (by simp [hd']),q⟩
  refine ⟨trivial,?_⟩
  simp only [Yo,List.set_cons_zero,List.set_cons_succ,List.getElem?_cons_zero,List.getElem?_cons_succ,wSs,wS,wE,wEs]
  refine ⟨ns,rfl,by omega,k0,fun b0=>?_⟩
  have hb:Xf (μ1 ++ [Cell.lst [D.int b0]]) μ1.length:=Xbp
  generalize μ1 ++ [Cell.lst [D.int b0]]=μ2 at hb
  generalize μ1.length=n at hb
  refine ⟨hb,by decide,by decide,fun y b1 y0 y1=>?_⟩
  have hb1:=Wf (b:=b1) hb
  generalize bx μ2 n b1=μ3 at hb1
  obtain ⟨y,rfl⟩:∃ j:Nat,y=(j:Int):=⟨y.toNat,by omega⟩
  simp only [wBin]
  refine ⟨n,3 + y,12,by simp,hb1,by omega,by omega,by decide,by decide,fun l μ4 hl4 hb4=>?_⟩
  refine ⟨by decide,by decide,?_⟩
  refine Xg (fun ds ρ μ'=>∃ (l':List Int) (v4 v5 v6 v7:Option D),l'.length=3 + y/\Xf μ' n/\ρ=[some (.ro (ns.map D.int)),some (.int k),some (.loc n),some (lvD l'),v4,v5,v6,v7]) ?_ ?_ _ _ _ ⟨l,v4,v5,v6,v7,hl4,hb4,rfl⟩
  ·rintro d ds ρ μ5 N5 hN5 ⟨l',v4,v5,v6,v7,hl',hb5,rfl⟩
   refine ⟨trivial,?_⟩
   simp only [List.set_cons_zero,List.set_cons_succ]
   exact key hb5 (by omega) (by omega) fun l2 μ' v5 v6 v7 e hb'=>hN5 _ _ ⟨l2,_,_,_,_,by omega,hb',rfl⟩
  ·rintro ρ μ5 ⟨l',v4,v5,v6,v7,hl',hb5,rfl⟩
   exact ⟨trivial,nx _ _ ⟨_,_,_,_,_,_,_,rfl⟩⟩
 ·rintro ρ μ1 ⟨-,v1,v2,v3,v4,v5,v6,v7,rfl⟩
  exact ⟨trivial,h _⟩
 ·intro d hd
  obtain ⟨i,rfl,h0,h1⟩:=Y7 hd
  exact ⟨i,rfl,by omega⟩
end DW.K58
end
namespace DW.K58
open PySem L2 DW DW.K03
noncomputable def top (i:Nat):Stmt:=PySem.Challenge.pw_pourwright_k58_led_by_phases.main.body.getD i (.Pass ⟨0,0,0,0⟩)
noncomputable def blts:List Str:=["isinstance","int","bool","tuple","len","list","range","divmod","min","ValueError","sorted","set","max"]
noncomputable abbrev s_is_whole:Stmt:=top 16
noncomputable def p_is_whole:List Str:=["thing"]
theorem Xao:FnScope n_is_whole p_is_whole (Xa s_is_whole):=⟨rfl,rfl,rfl,by decide +kernel,rfl,by decide +kernel,by decide +kernel⟩
theorem Ya7:mSs (Ctx.of n_is_whole (Xa s_is_whole).names blts) i_is_whole (Yb s_is_whole)=true:=by decide +kernel
theorem Xau:∀ ds μ Q,sp_is_whole ds μ Q->ds.length=p_is_whole.length:=by
 intro ds μ Q h
 unfold sp_is_whole at h
 split at h <;> first | rfl | exact h.elim
noncomputable abbrev sL_box:Stmt:=top 24
noncomputable def pL_box:List Str:=["script","k"]
theorem scL_box:FnScope nL_box pL_box (Xa sL_box):=⟨rfl,rfl,rfl,by decide +kernel,rfl,by decide +kernel,by decide +kernel⟩
theorem mL_box:mSs (Ctx.of nL_box (Xa sL_box).names blts) iL_box (Yb sL_box)=true:=by decide +kernel
theorem arL_box:∀ ds μ Q,spL_box ds μ Q->ds.length=pL_box.length:=by
 intro ds μ Q h
 unfold spL_box at h
 split at h <;> first | rfl | exact h.elim
noncomputable abbrev sL_take:Stmt:=top 25
noncomputable def pL_take:List Str:=["box","many"]
theorem Zb3:FnScope nL_take pL_take (Xa sL_take):=⟨rfl,rfl,rfl,by decide +kernel,rfl,by decide +kernel,by decide +kernel⟩
theorem mL_take:mSs (Ctx.of nL_take (Xa sL_take).names blts) iL_take (Yb sL_take)=true:=by decide +kernel
theorem arL_take:∀ ds μ Q,spL_take ds μ Q->ds.length=pL_take.length:=by
 intro ds μ Q h
 unfold spL_take at h
 split at h <;> first | rfl | exact h.elim
noncomputable abbrev sL_led:Stmt:=top 27
noncomputable def pL_led:List Str:=["layout","phase"]
theorem scL_led:FnScope nL_led pL_led (Xa sL_led):=⟨rfl,rfl,rfl,by decide +kernel,rfl,by decide +kernel,by decide +kernel⟩
theorem mL_led:mSs (Ctx.of nL_led (Xa sL_led).names blts) iL_led (Yb sL_led)=true:=by decide +kernel
theorem arL_led:∀ ds μ Q,spL_led ds μ Q->ds.length=pL_led.length:=by
 intro ds μ Q h
 unfold spL_led at h
 obtain ⟨_,_,_,_,rfl,_⟩:=h; rfl
noncomputable abbrev sL_classes:Stmt:=top 28
noncomputable def pL_classes:List Str:=["e"]
theorem Zap:FnScope nL_classes pL_classes (Xa sL_classes):=⟨rfl,rfl,rfl,by decide +kernel,rfl,by decide +kernel,by decide +kernel⟩
theorem Va7:mSs ⟨nL_classes,(Xa sL_classes).names,blts,false,true⟩ iL_classes (Yb sL_classes)=true:=by decide +kernel
theorem Zav:∀ ds μ Q,spL_classes ds μ Q->ds.length=pL_classes.length:=by
 intro ds μ Q h
 unfold spL_classes at h
 obtain ⟨_,_,_,rfl,_⟩:=h; rfl
noncomputable abbrev sL_is_phase:Stmt:=top 31
noncomputable def pL_is_phase:List Str:=["layout","phase"]
theorem Xag:FnScope nL_is_phase pL_is_phase (Xa sL_is_phase):=⟨rfl,rfl,rfl,by decide +kernel,rfl,by decide +kernel,by decide +kernel⟩
theorem Zar:mSs (Ctx.of nL_is_phase (Xa sL_is_phase).names blts) iL_is_phase (Yb sL_is_phase)=true:=by decide +kernel
theorem Wam:∀ ds μ Q,spL_is_phase ds μ Q->ds.length=pL_is_phase.length:=by
 intro ds μ Q h
 unfold spL_is_phase at h
 obtain ⟨_,_,_,_,rfl,_⟩:=h; rfl
noncomputable abbrev s_is_below:Stmt:=top 18
noncomputable def p_is_below:List Str:=["thing","many"]
theorem Vao:FnScope n_is_below p_is_below (Xa s_is_below):=⟨rfl,rfl,rfl,by decide +kernel,rfl,by decide +kernel,by decide +kernel⟩
theorem Wa7:mSs (Ctx.of n_is_below (Xa s_is_below).names blts) i_is_below (Yb s_is_below)=true:=by decide +kernel
theorem Vau:∀ ds μ Q,sp_is_below ds μ Q->ds.length=p_is_below.length:=by
 intro ds μ Q h
 unfold sp_is_below at h
 obtain ⟨_,_,rfl,_⟩:=h; rfl
noncomputable abbrev sL_layout:Stmt:=top 26
noncomputable def pL_layout:List Str:=["box","drives","most"]
theorem Ya5:FnScope nL_layout pL_layout (Xa sL_layout):=⟨rfl,rfl,rfl,by decide +kernel,rfl,by decide +kernel,by decide +kernel⟩
theorem Zbl:mSs (Ctx.of nL_layout (Xa sL_layout).names blts) iL_layout (Yb sL_layout)=true:=by decide +kernel
theorem Va9:∀ ds μ Q,spL_layout ds μ Q->ds.length=pL_layout.length:=by
 intro ds μ Q h
 unfold spL_layout at h
 obtain ⟨_,_,_,rfl,_⟩:=h; rfl
noncomputable abbrev sL_only:Stmt:=top 29
noncomputable def pL_only:List Str:=["e","place"]
theorem Yb3:FnScope nL_only pL_only (Xa sL_only):=⟨rfl,rfl,rfl,by decide +kernel,rfl,by decide +kernel,by decide +kernel⟩
theorem mL_only:mSs ⟨nL_only,(Xa sL_only).names,blts,false,true⟩ iL_only (Yb sL_only)=true:=by decide +kernel
theorem arL_only:∀ ds μ Q,spL_only ds μ Q->ds.length=pL_only.length:=by
 intro ds μ Q h
 unfold spL_only at h
 obtain ⟨_,_,_,_,rfl,_⟩:=h; rfl
noncomputable abbrev sL_tried:Stmt:=top 30
noncomputable def pL_tried:List Str:=["box","layout"]
theorem Zbg:FnScope nL_tried pL_tried (Xa sL_tried):=⟨rfl,rfl,rfl,by decide +kernel,rfl,by decide +kernel,by decide +kernel⟩
theorem mL_tried:mSs (Ctx.of nL_tried (Xa sL_tried).names blts) iL_tried (Yb sL_tried)=true:=by decide +kernel
theorem Ybx:∀ ds μ Q,spL_tried ds μ Q->ds.length=pL_tried.length:=by
 intro ds μ Q h
 unfold spL_tried at h
 obtain ⟨_,_,rfl,_⟩:=h; rfl
noncomputable abbrev s_are_sources:Stmt:=top 20
noncomputable def p_are_sources:List Str:=["thing","layout","times"]
theorem Z5:FnScope n_are_sources p_are_sources (Xa s_are_sources):=⟨rfl,rfl,rfl,by decide +kernel,rfl,by decide +kernel,by decide +kernel⟩
theorem Vac:mSs (Ctx.of n_are_sources (Xa s_are_sources).names blts) i_are_sources (Yb s_are_sources)=true:=by decide +kernel
theorem V5:∀ ds μ Q,sp_are_sources ds μ Q->ds.length=p_are_sources.length:=by
 intro ds μ Q h
 unfold sp_are_sources at h
 obtain ⟨_,_,_,rfl,_⟩:=h; rfl
noncomputable abbrev s_is_phase:Stmt:=top 21
noncomputable def p_is_phase:List Str:=["thing","layout"]
theorem Wao:FnScope n_is_phase p_is_phase (Xa s_is_phase):=⟨rfl,rfl,rfl,by decide +kernel,rfl,by decide +kernel,by decide +kernel⟩
theorem Xa7:mSs (Ctx.of n_is_phase (Xa s_is_phase).names blts) i_is_phase (Yb s_is_phase)=true:=by decide +kernel
theorem Wau:∀ ds μ Q,sp_is_phase ds μ Q->ds.length=p_is_phase.length:=by
 intro ds μ Q h
 unfold sp_is_phase at h
 obtain ⟨_,_,rfl,_⟩:=h; rfl
noncomputable abbrev s_led:Stmt:=top 22
noncomputable def p_led:List Str:=["layout","phase"]
theorem sc_led:FnScope n_led p_led (Xa s_led):=⟨rfl,rfl,rfl,by decide +kernel,rfl,by decide +kernel,by decide +kernel⟩
theorem m_led:mSs (Ctx.of n_led (Xa s_led).names blts) i_led (Yb s_led)=true:=by decide +kernel
theorem ar_led:∀ ds μ Q X,sp_led ds μ Q X->ds.length=p_led.length:=by
 intro ds μ Q X h
 unfold sp_led at h
 rcases h with ⟨_,_,_,_,rfl,_⟩ | ⟨_,_,rfl,_⟩ <;> rfl
noncomputable abbrev sL_told:Stmt:=top 32
noncomputable def pL_told:List Str:=["layout","phase"]
theorem Vb2:FnScope nL_told pL_told (Xa sL_told):=⟨rfl,rfl,rfl,by decide +kernel,rfl,by decide +kernel,by decide +kernel⟩
theorem mL_told:mSs (Ctx.of nL_told (Xa sL_told).names blts) iL_told (Yb sL_told)=true:=by decide +kernel
theorem arL_told:∀ ds μ Q,spL_told ds μ Q->ds.length=pL_told.length:=by
 intro ds μ Q h
 unfold spL_told at h
 rcases h with ⟨_,_,_,_,rfl,_⟩ | ⟨_,_,rfl,_⟩ <;> rfl
noncomputable abbrev s_law:Stmt:=top 33
noncomputable def p_law:List Str:=["script"]
theorem sc_law:FnScope n_law p_law (Xa s_law):=⟨rfl,rfl,rfl,by decide +kernel,rfl,by decide +kernel,by decide +kernel⟩
theorem m_law:mSs (Ctx.of n_law (Xa s_law).names blts) i_law (Yb s_law)=true:=by decide +kernel
theorem ar_law:∀ ds μ Q,spLaw ds μ Q->ds.length=p_law.length:=by
 intro ds μ Q h
 unfold spLaw at h
 obtain ⟨_,rfl,_⟩:=h; rfl
theorem ix0_mk {K:PySem.W.Frag} {C0 D0:Addr} (a0:PySem.W.nsIn K mainGlobals (Str.ofString "NoRoom")=some (some (.ref C0))) (d0:PySem.W.nsIn K mainGlobals (Str.ofString "NoPhase")=some (some (.ref D0))) (e0:XCls K "NoPhase") (k0:PySem.W.kitOne K (.ref D0) (.ref C0)=some false):IsxK K false ["NoRoom"] [("NoPhase",false)]:=by
 refine ⟨[.ref C0],⟨.inl ⟨C0,rfl,a0⟩,trivial⟩,?_⟩
 intro p hp
 simp only [List.mem_cons,List.not_mem_nil,or_false] at hp
 subst hp
 ·obtain ⟨D,f1,f2⟩:=e0
  rw [d0] at f1; cases f1
  exact ⟨D0,d0,f2,by rw [if_neg Bool.false_ne_true]; exact ⟨_,rfl,k0⟩⟩
theorem ix1_mk {K:PySem.W.Frag} {C0 D0:Addr} (a0:PySem.W.nsIn K mainGlobals (Str.ofString "NoWidth")=some (some (.ref C0))) (d0:PySem.W.nsIn K mainGlobals (Str.ofString "NoPhase")=some (some (.ref D0))) (e0:XCls K "NoPhase") (k0:PySem.W.kitOne K (.ref D0) (.ref C0)=some false):IsxK K false ["NoWidth"] [("NoPhase",false)]:=by
 refine ⟨[.ref C0],⟨.inl ⟨C0,rfl,a0⟩,trivial⟩,?_⟩
 intro p hp
 simp only [List.mem_cons,List.not_mem_nil,or_false] at hp
 subst hp
 ·obtain ⟨D,f1,f2⟩:=e0
  rw [d0] at f1; cases f1
  exact ⟨D0,d0,f2,by rw [if_neg Bool.false_ne_true]; exact ⟨_,rfl,k0⟩⟩
theorem ix2_mk {K:PySem.W.Frag} {C0 D0:Addr} (a0:PySem.W.nsIn K mainGlobals (Str.ofString "NoDrives")=some (some (.ref C0))) (d0:PySem.W.nsIn K mainGlobals (Str.ofString "NoPhase")=some (some (.ref D0))) (e0:XCls K "NoPhase") (k0:PySem.W.kitOne K (.ref D0) (.ref C0)=some false):IsxK K false ["NoDrives"] [("NoPhase",false)]:=by
 refine ⟨[.ref C0],⟨.inl ⟨C0,rfl,a0⟩,trivial⟩,?_⟩
 intro p hp
 simp only [List.mem_cons,List.not_mem_nil,or_false] at hp
 subst hp
 ·obtain ⟨D,f1,f2⟩:=e0
  rw [d0] at f1; cases f1
  exact ⟨D0,d0,f2,by rw [if_neg Bool.false_ne_true]; exact ⟨_,rfl,k0⟩⟩
theorem ix3_mk {K:PySem.W.Frag} {C0 D0:Addr} (a0:PySem.W.nsIn K mainGlobals (Str.ofString "NoPlace")=some (some (.ref C0))) (d0:PySem.W.nsIn K mainGlobals (Str.ofString "NoPhase")=some (some (.ref D0))) (e0:XCls K "NoPhase") (k0:PySem.W.kitOne K (.ref D0) (.ref C0)=some false):IsxK K false ["NoPlace"] [("NoPhase",false)]:=by
 refine ⟨[.ref C0],⟨.inl ⟨C0,rfl,a0⟩,trivial⟩,?_⟩
 intro p hp
 simp only [List.mem_cons,List.not_mem_nil,or_false] at hp
 subst hp
 ·obtain ⟨D,f1,f2⟩:=e0
  rw [d0] at f1; cases f1
  exact ⟨D0,d0,f2,by rw [if_neg Bool.false_ne_true]; exact ⟨_,rfl,k0⟩⟩
theorem ix4_mk {K:PySem.W.Frag} {C0 D0:Addr} (a0:PySem.W.nsIn K mainGlobals (Str.ofString "NoDrive")=some (some (.ref C0))) (d0:PySem.W.nsIn K mainGlobals (Str.ofString "NoPhase")=some (some (.ref D0))) (e0:XCls K "NoPhase") (k0:PySem.W.kitOne K (.ref D0) (.ref C0)=some false):IsxK K false ["NoDrive"] [("NoPhase",false)]:=by
 refine ⟨[.ref C0],⟨.inl ⟨C0,rfl,a0⟩,trivial⟩,?_⟩
 intro p hp
 simp only [List.mem_cons,List.not_mem_nil,or_false] at hp
 subst hp
 ·obtain ⟨D,f1,f2⟩:=e0
  rw [d0] at f1; cases f1
  exact ⟨D0,d0,f2,by rw [if_neg Bool.false_ne_true]; exact ⟨_,rfl,k0⟩⟩
theorem ix5_mk {K:PySem.W.Frag} {C0 D0:Addr} (a0:PySem.W.nsIn K mainGlobals (Str.ofString "NoPhase")=some (some (.ref C0))) (d0:PySem.W.nsIn K mainGlobals (Str.ofString "NoPhase")=some (some (.ref D0))) (e0:XCls K "NoPhase") (k0:PySem.W.kitOne K (.ref D0) (.ref C0)=some true):IsxK K false ["NoPhase"] [("NoPhase",true)]:=by
 refine ⟨[.ref C0],⟨.inl ⟨C0,rfl,a0⟩,trivial⟩,?_⟩
 intro p hp
 simp only [List.mem_cons,List.not_mem_nil,or_false] at hp
 subst hp
 ·obtain ⟨D,f1,f2⟩:=e0
  rw [d0] at f1; cases f1
  exact ⟨D0,d0,f2,by rw [if_neg Bool.false_ne_true]; exact ⟨_,rfl,k0⟩⟩
theorem ix6_mk {K:PySem.W.Frag} {C0 D0:Addr} (a0:PySem.W.nsIn K mainGlobals (Str.ofString "NoShelf")=some (some (.ref C0))) (d0:PySem.W.nsIn K mainGlobals (Str.ofString "NoPhase")=some (some (.ref D0))) (e0:XCls K "NoPhase") (k0:PySem.W.kitOne K (.ref D0) (.ref C0)=some false):IsxK K false ["NoShelf"] [("NoPhase",false)]:=by
 refine ⟨[.ref C0],⟨.inl ⟨C0,rfl,a0⟩,trivial⟩,?_⟩
 intro p hp
 simp only [List.mem_cons,List.not_mem_nil,or_false] at hp
 subst hp
 ·obtain ⟨D,f1,f2⟩:=e0
  rw [d0] at f1; cases f1
  exact ⟨D0,d0,f2,by rw [if_neg Bool.false_ne_true]; exact ⟨_,rfl,k0⟩⟩
theorem ix7_mk {K:PySem.W.Frag} {C0 D0:Addr} (a0:PySem.W.nsIn K mainGlobals (Str.ofString "NoLine")=some (some (.ref C0))) (d0:PySem.W.nsIn K mainGlobals (Str.ofString "NoPhase")=some (some (.ref D0))) (e0:XCls K "NoPhase") (k0:PySem.W.kitOne K (.ref D0) (.ref C0)=some false):IsxK K false ["NoLine"] [("NoPhase",false)]:=by
 refine ⟨[.ref C0],⟨.inl ⟨C0,rfl,a0⟩,trivial⟩,?_⟩
 intro p hp
 simp only [List.mem_cons,List.not_mem_nil,or_false] at hp
 subst hp
 ·obtain ⟨D,f1,f2⟩:=e0
  rw [d0] at f1; cases f1
  exact ⟨D0,d0,f2,by rw [if_neg Bool.false_ne_true]; exact ⟨_,rfl,k0⟩⟩
theorem ix8_mk {K:PySem.W.Frag} {C0 D0:Addr} (a0:PySem.W.nsIn K mainGlobals (Str.ofString "TooMany")=some (some (.ref C0))) (d0:PySem.W.nsIn K mainGlobals (Str.ofString "NoPhase")=some (some (.ref D0))) (e0:XCls K "NoPhase") (k0:PySem.W.kitOne K (.ref D0) (.ref C0)=some false):IsxK K false ["TooMany"] [("NoPhase",false)]:=by
 refine ⟨[.ref C0],⟨.inl ⟨C0,rfl,a0⟩,trivial⟩,?_⟩
 intro p hp
 simp only [List.mem_cons,List.not_mem_nil,or_false] at hp
 subst hp
 ·obtain ⟨D,f1,f2⟩:=e0
  rw [d0] at f1; cases f1
  exact ⟨D0,d0,f2,by rw [if_neg Bool.false_ne_true]; exact ⟨_,rfl,k0⟩⟩
theorem ix9_mk {K:PySem.W.Frag} {C0 D0:Addr} (a0:PySem.W.nsIn K mainGlobals (Str.ofString "NoRow")=some (some (.ref C0))) (d0:PySem.W.nsIn K mainGlobals (Str.ofString "NoPhase")=some (some (.ref D0))) (e0:XCls K "NoPhase") (k0:PySem.W.kitOne K (.ref D0) (.ref C0)=some false):IsxK K false ["NoRow"] [("NoPhase",false)]:=by
 refine ⟨[.ref C0],⟨.inl ⟨C0,rfl,a0⟩,trivial⟩,?_⟩
 intro p hp
 simp only [List.mem_cons,List.not_mem_nil,or_false] at hp
 subst hp
 ·obtain ⟨D,f1,f2⟩:=e0
  rw [d0] at f1; cases f1
  exact ⟨D0,d0,f2,by rw [if_neg Bool.false_ne_true]; exact ⟨_,rfl,k0⟩⟩
theorem ix10_mk {K:PySem.W.Frag} {C0 D0:Addr} (a0:PySem.W.nsIn K mainGlobals (Str.ofString "NotRising")=some (some (.ref C0))) (d0:PySem.W.nsIn K mainGlobals (Str.ofString "NoPhase")=some (some (.ref D0))) (e0:XCls K "NoPhase") (k0:PySem.W.kitOne K (.ref D0) (.ref C0)=some false):IsxK K false ["NotRising"] [("NoPhase",false)]:=by
 refine ⟨[.ref C0],⟨.inl ⟨C0,rfl,a0⟩,trivial⟩,?_⟩
 intro p hp
 simp only [List.mem_cons,List.not_mem_nil,or_false] at hp
 subst hp
 ·obtain ⟨D,f1,f2⟩:=e0
  rw [d0] at f1; cases f1
  exact ⟨D0,d0,f2,by rw [if_neg Bool.false_ne_true]; exact ⟨_,rfl,k0⟩⟩
theorem ix11_mk {K:PySem.W.Frag} {C0 D0:Addr} (a0:PySem.W.nsIn K mainGlobals (Str.ofString "NoTrace")=some (some (.ref C0))) (d0:PySem.W.nsIn K mainGlobals (Str.ofString "NoPhase")=some (some (.ref D0))) (e0:XCls K "NoPhase") (k0:PySem.W.kitOne K (.ref D0) (.ref C0)=some false):IsxK K false ["NoTrace"] [("NoPhase",false)]:=by
 refine ⟨[.ref C0],⟨.inl ⟨C0,rfl,a0⟩,trivial⟩,?_⟩
 intro p hp
 simp only [List.mem_cons,List.not_mem_nil,or_false] at hp
 subst hp
 ·obtain ⟨D,f1,f2⟩:=e0
  rw [d0] at f1; cases f1
  exact ⟨D0,d0,f2,by rw [if_neg Bool.false_ne_true]; exact ⟨_,rfl,k0⟩⟩
theorem ix12_mk {K:PySem.W.Frag} {C0 D0:Addr} (a0:PySem.W.nsIn K mainGlobals (Str.ofString "Bare")=some (some (.ref C0))) (d0:PySem.W.nsIn K mainGlobals (Str.ofString "NoPhase")=some (some (.ref D0))) (e0:XCls K "NoPhase") (k0:PySem.W.kitOne K (.ref D0) (.ref C0)=some false):IsxK K false ["Bare"] [("NoPhase",false)]:=by
 refine ⟨[.ref C0],⟨.inl ⟨C0,rfl,a0⟩,trivial⟩,?_⟩
 intro p hp
 simp only [List.mem_cons,List.not_mem_nil,or_false] at hp
 subst hp
 ·obtain ⟨D,f1,f2⟩:=e0
  rw [d0] at f1; cases f1
  exact ⟨D0,d0,f2,by rw [if_neg Bool.false_ne_true]; exact ⟨_,rfl,k0⟩⟩
theorem ix13_mk {K:PySem.W.Frag} {C0 D0:Addr} (a0:PySem.W.nsIn K mainGlobals (Str.ofString "PourError")=some (some (.ref C0))) (d0:PySem.W.nsIn K mainGlobals (Str.ofString "NoPhase")=some (some (.ref D0))) (e0:XCls K "NoPhase") (k0:PySem.W.kitOne K (.ref D0) (.ref C0)=some true):IsxK K false ["PourError"] [("NoPhase",true)]:=by
 refine ⟨[.ref C0],⟨.inl ⟨C0,rfl,a0⟩,trivial⟩,?_⟩
 intro p hp
 simp only [List.mem_cons,List.not_mem_nil,or_false] at hp
 subst hp
 ·obtain ⟨D,f1,f2⟩:=e0
  rw [d0] at f1; cases f1
  exact ⟨D0,d0,f2,by rw [if_neg Bool.false_ne_true]; exact ⟨_,rfl,k0⟩⟩
theorem ix14_mk {K:PySem.W.Frag} { D0:Addr} (a0:PySem.W.nsIn K mainGlobals (Str.ofString "ValueError")=some none) (d0:PySem.W.nsIn K mainGlobals (Str.ofString "NoPhase")=some (some (.ref D0))) (e0:XCls K "NoPhase") (k0:PySem.W.kitOne K (.ref D0) (.type "ValueError")=some true):IsxK K false ["ValueError"] [("NoPhase",true)]:=by
 refine ⟨[.ty "ValueError"],⟨.inr ⟨rfl,a0,by decide +kernel,by decide +kernel⟩,trivial⟩,?_⟩
 intro p hp
 simp only [List.mem_cons,List.not_mem_nil,or_false] at hp
 subst hp
 ·obtain ⟨D,f1,f2⟩:=e0
  rw [d0] at f1; cases f1
  exact ⟨D0,d0,f2,by rw [if_neg Bool.false_ne_true]; exact ⟨_,rfl,k0⟩⟩
theorem hd_PourError_mk {K:PySem.W.Frag} {CP D0:Addr} (a:PySem.W.nsIn K mainGlobals (Str.ofString "PourError")=some (some (.ref CP))) (d0:PySem.W.nsIn K mainGlobals (Str.ofString "NoPhase")=some (some (.ref D0))) (k0:PySem.W.exmOne K (.ref D0) (.ref CP)=some true):HdlK K "PourError" ["NoPhase"]:=by
 refine ⟨CP,a,?_⟩
 intro c hc
 simp only [List.mem_cons,List.not_mem_nil,or_false] at hc
 subst hc
 ·exact ⟨D0,d0,k0⟩
set_option maxHeartbeats 0 in
theorem law_fn {T:Top} {h:Heap} {f:Addr} {fd:FuncData} (X:T.K.In h) (G:h.Ns mainGlobals T.mg) (fr:FreeAt T.K blts) (r_NoPhase:RseK T.K "NoPhase") (x0:IsxK T.K false ["NoRoom"] [("NoPhase",false)]) (x1:IsxK T.K false ["NoWidth"] [("NoPhase",false)]) (x2:IsxK T.K false ["NoDrives"] [("NoPhase",false)]) (x3:IsxK T.K false ["NoPlace"] [("NoPhase",false)]) (x4:IsxK T.K false ["NoDrive"] [("NoPhase",false)]) (x5:IsxK T.K false ["NoPhase"] [("NoPhase",true)]) (x6:IsxK T.K false ["NoShelf"] [("NoPhase",false)]) (x7:IsxK T.K false ["NoLine"] [("NoPhase",false)]) (x8:IsxK T.K false ["TooMany"] [("NoPhase",false)]) (x9:IsxK T.K false ["NoRow"] [("NoPhase",false)]) (x10:IsxK T.K false ["NotRising"] [("NoPhase",false)]) (x11:IsxK T.K false ["NoTrace"] [("NoPhase",false)]) (x12:IsxK T.K false ["Bare"] [("NoPhase",false)]) (x13:IsxK T.K false ["PourError"] [("NoPhase",true)]) (x14:IsxK T.K false ["ValueError"] [("NoPhase",true)]) (h_PourError:HdlK T.K "PourError" ["NoPhase"]) (d_is_whole:DefAt T.K "is_whole" s_is_whole) (dL_box:DefAt T.K "_law_box" sL_box) (dL_take:DefAt T.K "_law_take" sL_take) (dL_led:DefAt T.K "_law_led" sL_led) (dL_classes:DefAt T.K "_law_classes" sL_classes) (dL_is_phase:DefAt T.K "_law_is_phase" sL_is_phase) (d_is_below:DefAt T.K "is_below" s_is_below) (dL_layout:DefAt T.K "_law_layout" sL_layout) (dL_only:DefAt T.K "_law_only" sL_only) (dL_tried:DefAt T.K "_law_tried" sL_tried) (d_are_sources:DefAt T.K "are_sources" s_are_sources) (d_is_phase:DefAt T.K "is_phase" s_is_phase) (d_led:DefAt T.K "led" s_led) (dL_told:DefAt T.K "_law_told" sL_told) (F:Fun T.K "law" "law" s_law f fd):FnOk T.P T.w T.K T.mg T.base (CXE T.P T.w) 23 f fd p_law (low T.K spLaw):=by
 have hb:=Wbr X G fr
 have o_is_whole:okSs (FnTop T 0) (Ze T) i_is_whole:=by
  repeat' first | exact trivial | refine And.intro ?_ ?_ | assumption | exact rfl
 have u_is_whole:=X3 d_is_whole X G Xao Ya7 hb (fun _ _ _ _ _ _=>len1 fun _=>rfl) Xau k_is_whole o_is_whole
 have oL_box:okSs (FnTop T 0) (Ze T) iL_box:=by
  repeat' first | exact trivial | refine And.intro ?_ ?_ | assumption | exact rfl
 have uL_box:=X3 dL_box X G scL_box mL_box hb (fun _ _ _ _ _ _=>len2 fun _ _=>rfl) arL_box kL_box oL_box
 have oL_take:okSs (FnTop T 0) (Ze T) iL_take:=by
  repeat' first | exact trivial | refine And.intro ?_ ?_ | assumption | exact rfl
 have uL_take:=X3 dL_take X G Zb3 mL_take hb (fun _ _ _ _ _ _=>len2 fun _ _=>rfl) arL_take kL_take oL_take
 have oL_led:okSs (FnTop T 0) (Ze T) iL_led:=by
  repeat' first | exact trivial | refine And.intro ?_ ?_ | assumption | exact rfl
 have uL_led:=X3 dL_led X G scL_led mL_led hb (fun _ _ _ _ _ _=>len2 fun _ _=>rfl) arL_led kL_led oL_led
 have z0L_classes:FnLev T 0 (.isx false ["NoRoom"] [("NoPhase",false)]) spN:=x0.at X G
 have z1L_classes:FnLev T 0 (.isx false ["NoWidth"] [("NoPhase",false)]) spN:=x1.at X G
 have z2L_classes:FnLev T 0 (.isx false ["NoDrives"] [("NoPhase",false)]) spN:=x2.at X G
 have z3L_classes:FnLev T 0 (.isx false ["NoPlace"] [("NoPhase",false)]) spN:=x3.at X G
 have z4L_classes:FnLev T 0 (.isx false ["NoDrive"] [("NoPhase",false)]) spN:=x4.at X G
 have z5L_classes:FnLev T 0 (.isx false ["NoPhase"] [("NoPhase",true)]) spN:=x5.at X G
 have z6L_classes:FnLev T 0 (.isx false ["NoShelf"] [("NoPhase",false)]) spN:=x6.at X G
 have z7L_classes:FnLev T 0 (.isx false ["NoLine"] [("NoPhase",false)]) spN:=x7.at X G
 have z8L_classes:FnLev T 0 (.isx false ["TooMany"] [("NoPhase",false)]) spN:=x8.at X G
 have z9L_classes:FnLev T 0 (.isx false ["NoRow"] [("NoPhase",false)]) spN:=x9.at X G
 have z10L_classes:FnLev T 0 (.isx false ["NotRising"] [("NoPhase",false)]) spN:=x10.at X G
 have z11L_classes:FnLev T 0 (.isx false ["NoTrace"] [("NoPhase",false)]) spN:=x11.at X G
 have z12L_classes:FnLev T 0 (.isx false ["Bare"] [("NoPhase",false)]) spN:=x12.at X G
 have oL_classes:okSs (FnLev T 0) (Ze T) iL_classes:=by
  repeat' first | exact trivial | refine And.intro ?_ ?_ | assumption | exact rfl
 have uL_classes:=fnM_at dL_classes X G Zap Va7 hb (fun _ _ _ _ _ _=>len1 fun _=>rfl) Zav kL_classes oL_classes
 have oL_is_phase:okSs (FnTop T 0) (Ze T) iL_is_phase:=by
  repeat' first | exact trivial | refine And.intro ?_ ?_ | assumption | exact rfl
 have uL_is_phase:=X3 dL_is_phase X G Xag Zar hb (fun _ _ _ _ _ _=>len2 fun _ _=>rfl) Wam kL_is_phase oL_is_phase
 have u_is_whole_is_below:=u_is_whole.up (show 1<=1 by decide)
 have o_is_below:okSs (FnTop T 1) (Ze T) i_is_below:=by
  repeat' first | exact trivial | refine And.intro ?_ ?_ | assumption | exact rfl
 have u_is_below:=X3 d_is_below X G Vao Wa7 hb (fun _ _ _ _ _ _=>len2 fun _ _=>rfl) Vau k_is_below o_is_below
 have uL_takeL_layout:=uL_take.up (show 1<=1 by decide)
 have oL_layout:okSs (FnTop T 1) (Ze T) iL_layout:=by
  repeat' first | exact trivial | refine And.intro ?_ ?_ | assumption | exact rfl
 have uL_layout:=X3 dL_layout X G Ya5 Zbl hb (fun _ _ _ _ _ _=>len3 fun _ _ _=>rfl) Va9 kL_layout oL_layout
 have uL_classesL_only:=FnLev.up uL_classes (show 1<=1 by decide)
 have z13L_only:FnLev T 1 (.isx false ["PourError"] [("NoPhase",true)]) spN:=x13.at X G
 have z14L_only:FnLev T 1 (.isx false ["ValueError"] [("NoPhase",true)]) spN:=x14.at X G
 have oL_only:okSs (FnLev T 1) (Ze T) iL_only:=by
  repeat' first | exact trivial | refine And.intro ?_ ?_ | assumption | exact rfl
 have uL_only:=fnM_at dL_only X G Yb3 mL_only hb (fun _ _ _ _ _ _=>len2 fun _ _=>rfl) arL_only kL_only oL_only
 have uL_takeL_tried:=uL_take.up (show 1<=1 by decide)
 have oL_tried:okSs (FnTop T 1) (Ze T) iL_tried:=by
  repeat' first | exact trivial | refine And.intro ?_ ?_ | assumption | exact rfl
 have uL_tried:=X3 dL_tried X G Zbg mL_tried hb (fun _ _ _ _ _ _=>len2 fun _ _=>rfl) Ybx kL_tried oL_tried
 have u_is_below_are_sources:=u_is_below.up (show 2<=2 by decide)
 have o_are_sources:okSs (FnTop T 2) (Ze T) i_are_sources:=by
  repeat' first | exact trivial | refine And.intro ?_ ?_ | assumption | exact rfl
 have u_are_sources:=X3 d_are_sources X G Z5 Vac hb (fun _ _ _ _ _ _=>len3 fun _ _ _=>rfl) V5 k_are_sources o_are_sources
 have u_is_below_is_phase:=u_is_below.up (show 2<=3 by decide)
 have u_is_whole_is_phase:=u_is_whole.up (show 1<=3 by decide)
 have u_are_sources_is_phase:=u_are_sources.up (show 3<=3 by decide)
 have o_is_phase:okSs (FnTop T 3) (Ze T) i_is_phase:=by
  repeat' first | exact trivial | refine And.intro ?_ ?_ | assumption | exact rfl
 have u_is_phase:=X3 d_is_phase X G Wao Xa7 hb (fun _ _ _ _ _ _=>len2 fun _ _=>rfl) Wau k_is_phase o_is_phase
 have u_is_phase_led:=u_is_phase.up (show 4<=4 by decide)
 have y_NoPhase_led:FnTop T 4 (.rse "NoPhase") spN:=r_NoPhase.at X G
 have o_led:okSs (FnTop T 4) (Ze T) i_led:=by
  repeat' first | exact trivial | refine And.intro ?_ ?_ | assumption | exact rfl
 have u_led:=fn_atX d_led X G sc_led m_led hb (fun _ _ _ _ _ _=>len2 fun _ _=>rfl) ar_led k_led o_led
 have u_ledL_told:=u_led.up (show 5<=5 by decide)
 have v_ledL_told:=u_ledL_told.calm
 have uL_onlyL_told:FnTop T 5 _ _:=FnLev.up uL_only (show 2<=21 by decide)
 have umL_onlyL_told:=FnLev.mild (k:=5) uL_only
 have w_PourErrorL_told:FnTop T 5 (.hdl "PourError" ["NoPhase"]) spN:=h_PourError.at X G
 have oL_told:okSs (FnTop T 5) (Ze T) iL_told:=by
  repeat' first | exact trivial | refine And.intro ?_ ?_ | assumption | exact rfl
 have uL_told:=X3 dL_told X G Vb2 mL_told hb (fun _ _ _ _ _ _=>len2 fun _ _=>rfl) arL_told kL_told oL_told
 have uL_box_law:=uL_box.up (show 1<=6 by decide)
 have uL_layout_law:=uL_layout.up (show 2<=6 by decide)
 have uL_take_law:=uL_take.up (show 1<=6 by decide)
 have uL_tried_law:=uL_tried.up (show 2<=6 by decide)
 have uL_is_phase_law:=uL_is_phase.up (show 1<=6 by decide)
 have uL_led_law:=uL_led.up (show 1<=6 by decide)
 have uL_told_law:=uL_told.up (show 6<=6 by decide)
 have o_law:okSs (FnTop T 6) (Ze T) i_law:=by
  repeat' first | exact trivial | refine And.intro ?_ ?_ | assumption | exact rfl
 exact fn_okF F sc_law m_law hb o_law ar_law k_law
end DW.K58
open PySem PySem.W PyProof.Rows
set_option maxRecDepth 100000 in
set_option maxHeartbeats 0 in
theorem PySem.Challenge.cw_pourwright_k58_led_by_phases_holds : PySem.Challenge.rw_pourwright_k58_led_by_phases.Holds := by
 w_on; o_law; k_head; (case hw=>w_witness2)
 k_fill
 refine DW.law_walk (l:=PySem.Challenge.rw_pourwright_k58_led_by_phases) (k:=23) ?I rfl (by decide) rfl (fun w h Y=>by first | exact PySem.W.kIn_of Y | exact PySem.W.km_in_of Y) ?F
 case I=>kernel_rfl
 case F =>
  intro w mg fa h KX G hmg
  have d_is_whole:DW.DefAt (L2.KOf KX) "is_whole" DW.K58.s_is_whole:=by
   dsimp only [L2.KOf]
   refine' DW.defAt_mk ?a ?l ?c ?k
   (case a=>k_is); (case l=>k_is); (case c=>k_is); (case k=>k_is)
  have dL_box:DW.DefAt (L2.KOf KX) "_law_box" DW.K58.sL_box:=by
   dsimp only [L2.KOf]
   refine' DW.defAt_mk ?a ?l ?c ?k
   (case a=>k_is); (case l=>k_is); (case c=>k_is); (case k=>k_is)
  have dL_take:DW.DefAt (L2.KOf KX) "_law_take" DW.K58.sL_take:=by
   dsimp only [L2.KOf]
   refine' DW.defAt_mk ?a ?l ?c ?k
   (case a=>k_is); (case l=>k_is); (case c=>k_is); (case k=>k_is)
  have dL_led:DW.DefAt (L2.KOf KX) "_law_led" DW.K58.sL_led:=by
   dsimp only [L2.KOf]
   refine' DW.defAt_mk ?a ?l ?c ?k
   (case a=>k_is); (case l=>k_is); (case c=>k_is); (case k=>k_is)
  have dL_classes:DW.DefAt (L2.KOf KX) "_law_classes" DW.K58.sL_classes:=by
   dsimp only [L2.KOf]
   refine' DW.defAt_mk ?a ?l ?c ?k
   (case a=>k_is); (case l=>k_is); (case c=>k_is); (case k=>k_is)
  have dL_is_phase:DW.DefAt (L2.KOf KX) "_law_is_phase" DW.K58.sL_is_phase:=by
   dsimp only [L2.KOf]
   refine' DW.defAt_mk ?a ?l ?c ?k
   (case a=>k_is); (case l=>k_is); (case c=>k_is); (case k=>k_is)
  have d_is_below:DW.DefAt (L2.KOf KX) "is_below" DW.K58.s_is_below:=by
   dsimp only [L2.KOf]
   refine' DW.defAt_mk ?a ?l ?c ?k
   (case a=>k_is); (case l=>k_is); (case c=>k_is); (case k=>k_is)
  have dL_layout:DW.DefAt (L2.KOf KX) "_law_layout" DW.K58.sL_layout:=by
   dsimp only [L2.KOf]
   refine' DW.defAt_mk ?a ?l ?c ?k
   (case a=>k_is); (case l=>k_is); (case c=>k_is); (case k=>k_is)
  have dL_only:DW.DefAt (L2.KOf KX) "_law_only" DW.K58.sL_only:=by
   dsimp only [L2.KOf]
   refine' DW.defAt_mk ?a ?l ?c ?k
   (case a=>k_is); (case l=>k_is); (case c=>k_is); (case k=>k_is)
  have dL_tried:DW.DefAt (L2.KOf KX) "_law_tried" DW.K58.sL_tried:=by
   dsimp only [L2.KOf]
   refine' DW.defAt_mk ?a ?l ?c ?k
   (case a=>k_is); (case l=>k_is); (case c=>k_is); (case k=>k_is)
  have d_are_sources:DW.DefAt (L2.KOf KX) "are_sources" DW.K58.s_are_sources:=by
   dsimp only [L2.KOf]
   refine' DW.defAt_mk ?a ?l ?c ?k
   (case a=>k_is); (case l=>k_is); (case c=>k_is); (case k=>k_is)
  have d_is_phase:DW.DefAt (L2.KOf KX) "is_phase" DW.K58.s_is_phase:=by
   dsimp only [L2.KOf]
   refine' DW.defAt_mk ?a ?l ?c ?k
   (case a=>k_is); (case l=>k_is); (case c=>k_is); (case k=>k_is)
  have d_led:DW.DefAt (L2.KOf KX) "led" DW.K58.s_led:=by
   dsimp only [L2.KOf]
   refine' DW.defAt_mk ?a ?l ?c ?k
   (case a=>k_is); (case l=>k_is); (case c=>k_is); (case k=>k_is)
  have dL_told:DW.DefAt (L2.KOf KX) "_law_told" DW.K58.sL_told:=by
   dsimp only [L2.KOf]
   refine' DW.defAt_mk ?a ?l ?c ?k
   (case a=>k_is); (case l=>k_is); (case c=>k_is); (case k=>k_is)
  have d_law:DW.DefAt (L2.KOf KX) "law" DW.K58.s_law:=by
   dsimp only [L2.KOf]
   refine' DW.defAt_mk ?a ?l ?c ?k
   (case a=>k_is); (case l=>k_is); (case c=>k_is); (case k=>k_is)
  have r_NoPhase:DW.RseK (L2.KOf KX) "NoPhase":=by
   dsimp only [L2.KOf]
   refine' DW.rseK_mk ?a ?b
   (case a=>k_is); (case b=>k_exc)
  have xc_NoPhase:DW.XCls (L2.KOf KX) "NoPhase":=by
   dsimp only [L2.KOf]
   refine' DW.xCls_mk ?a ?b ?c ?d ?e ?f ?g ?h ?i
   (case a=>k_is); (case b=>k_is); (case c=>k_is); (case d=>k_is); (case e=>k_is); (case f=>k_is); (case g=>k_is); (case h=>k_is); (case i=>k_is)
  have x0:DW.IsxK (L2.KOf KX) false ["NoRoom"] [("NoPhase",false)]:=by
   dsimp only [L2.KOf] at *
   refine' DW.K58.ix0_mk ?a0 ?d0 xc_NoPhase ?k0
   (case a0=>k_is); (case d0=>k_is); (case k0=>kit_is)
  have x1:DW.IsxK (L2.KOf KX) false ["NoWidth"] [("NoPhase",false)]:=by
   dsimp only [L2.KOf] at *
   refine' DW.K58.ix1_mk ?a0 ?d0 xc_NoPhase ?k0
   (case a0=>k_is); (case d0=>k_is); (case k0=>kit_is)
  have x2:DW.IsxK (L2.KOf KX) false ["NoDrives"] [("NoPhase",false)]:=by
   dsimp only [L2.KOf] at *
   refine' DW.K58.ix2_mk ?a0 ?d0 xc_NoPhase ?k0
   (case a0=>k_is); (case d0=>k_is); (case k0=>kit_is)
  have x3:DW.IsxK (L2.KOf KX) false ["NoPlace"] [("NoPhase",false)]:=by
   dsimp only [L2.KOf] at *
   refine' DW.K58.ix3_mk ?a0 ?d0 xc_NoPhase ?k0
   (case a0=>k_is); (case d0=>k_is); (case k0=>kit_is)
  have x4:DW.IsxK (L2.KOf KX) false ["NoDrive"] [("NoPhase",false)]:=by
   dsimp only [L2.KOf] at *
   refine' DW.K58.ix4_mk ?a0 ?d0 xc_NoPhase ?k0
   (case a0=>k_is); (case d0=>k_is); (case k0=>kit_is)
  have x5:DW.IsxK (L2.KOf KX) false ["NoPhase"] [("NoPhase",true)]:=by
   dsimp only [L2.KOf] at *
   refine' DW.K58.ix5_mk ?a0 ?d0 xc_NoPhase ?k0
   (case a0=>k_is); (case d0=>k_is); (case k0=>kit_is)
  have x6:DW.IsxK (L2.KOf KX) false ["NoShelf"] [("NoPhase",false)]:=by
   dsimp only [L2.KOf] at *
   refine' DW.K58.ix6_mk ?a0 ?d0 xc_NoPhase ?k0
   (case a0=>k_is); (case d0=>k_is); (case k0=>kit_is)
  have x7:DW.IsxK (L2.KOf KX) false ["NoLine"] [("NoPhase",false)]:=by
   dsimp only [L2.KOf] at *
   refine' DW.K58.ix7_mk ?a0 ?d0 xc_NoPhase ?k0
   (case a0=>k_is); (case d0=>k_is); (case k0=>kit_is)
  have x8:DW.IsxK (L2.KOf KX) false ["TooMany"] [("NoPhase",false)]:=by
   dsimp only [L2.KOf] at *
   refine' DW.K58.ix8_mk ?a0 ?d0 xc_NoPhase ?k0
   (case a0=>k_is); (case d0=>k_is); (case k0=>kit_is)
  have x9:DW.IsxK (L2.KOf KX) false ["NoRow"] [("NoPhase",false)]:=by
   dsimp only [L2.KOf] at *
   refine' DW.K58.ix9_mk ?a0 ?d0 xc_NoPhase ?k0
   (case a0=>k_is); (case d0=>k_is); (case k0=>kit_is)
  have x10:DW.IsxK (L2.KOf KX) false ["NotRising"] [("NoPhase",false)]:=by
   dsimp only [L2.KOf] at *
   refine' DW.K58.ix10_mk ?a0 ?d0 xc_NoPhase ?k0
   (case a0=>k_is); (case d0=>k_is); (case k0=>kit_is)
  have x11:DW.IsxK (L2.KOf KX) false ["NoTrace"] [("NoPhase",false)]:=by
   dsimp only [L2.KOf] at *
   refine' DW.K58.ix11_mk ?a0 ?d0 xc_NoPhase ?k0
   (case a0=>k_is); (case d0=>k_is); (case k0=>kit_is)
  have x12:DW.IsxK (L2.KOf KX) false ["Bare"] [("NoPhase",false)]:=by
   dsimp only [L2.KOf] at *
   refine' DW.K58.ix12_mk ?a0 ?d0 xc_NoPhase ?k0
   (case a0=>k_is); (case d0=>k_is); (case k0=>kit_is)
  have x13:DW.IsxK (L2.KOf KX) false ["PourError"] [("NoPhase",true)]:=by
   dsimp only [L2.KOf] at *
   refine' DW.K58.ix13_mk ?a0 ?d0 xc_NoPhase ?k0
   (case a0=>k_is); (case d0=>k_is); (case k0=>kit_is)
  have x14:DW.IsxK (L2.KOf KX) false ["ValueError"] [("NoPhase",true)]:=by
   dsimp only [L2.KOf] at *
   refine' DW.K58.ix14_mk ?a0 ?d0 xc_NoPhase ?k0
   (case a0=>k_is); (case d0=>k_is); (case k0=>kit_is)
  have h_PourError:DW.HdlK (L2.KOf KX) "PourError" ["NoPhase"]:=by
   dsimp only [L2.KOf]
   refine' DW.K58.hd_PourError_mk ?a ?d0 ?k0
   (case a=>k_is); (case d0=>k_is); (case k0=>kts_exm)
  have fr:DW.FreeAt (L2.KOf KX) DW.K58.blts:=by
   dsimp only [L2.KOf,DW.K58.blts,DW.FreeAt]
   refine' ⟨?z0,?z1,?z2,?z3,?z4,?z5,?z6,?z7,?z8,?z9,?z10,?z11,?z12,trivial⟩
   (case z0=>k_is)
   (case z1=>k_is)
   (case z2=>k_is)
   (case z3=>k_is)
   (case z4=>k_is)
   (case z5=>k_is)
   (case z6=>k_is)
   (case z7=>k_is)
   (case z8=>k_is)
   (case z9=>k_is)
   (case z10=>k_is)
   (case z11=>k_is)
   (case z12=>k_is)
  obtain ⟨f,fd,e1,F⟩:=d_law
  have e2:=hmg.symm.trans (PySem.W.mg_of KX G e1)
  cases e2
  refine ⟨fd,?_,fun base _ _=>DW.K58.law_fn (T:=⟨_,w,_,mg,base⟩) KX G fr r_NoPhase x0 x1 x2 x3 x4 x5 x6 x7 x8 x9 x10 x11 x12 x13 x14 h_PourError d_is_whole dL_box dL_take dL_led dL_classes dL_is_phase d_is_below dL_layout dL_only dL_tried d_are_sources d_is_phase d_led dL_told F⟩
  obtain ⟨oc,od,kV,doc,pm,an,cdv,ct,osl,rfl,lk,hcd⟩:=F.ex
  exact fun s u=>.of_eq rfl
#print axioms PySem.Challenge.cw_pourwright_k58_led_by_phases_holds
