import PyProof.Rows.All
import Wide.All
import OpenK.AllK
import Wide.FinOn
import Lean
import PyProof.EqAt
import PyProof.EqKinds
import PyProof.TupleCall
import PyProof.StrLawsChain
import PyProof.StrLawsFirst
import PyProof.StrLawsJoin
import PyProof.MeetsStr2
import PyProof.ReprLen
import KE.KIntText
import PySem.Syntax
import PySem.Value
import PyProof.StrOps2
import PySem.Eval
import PyProof.NeKinds
import PyProof.StrLawsIn
import KE.KEqDict
import PyProof.DictTable
import PyProof.SliceStr2
import PyProof.ReprRoads
import PyProof.CallFns
import KE.KSortTup
import PyProof.Rows.SortWalk
import PyProof.Dict
import PyProof.DictKinds
import PyProof.StrOps
import KE.KDictList
import PyProof.FitsInt
import PyProof.ListRange
import PyProof.TupleOfSeq
import PyProof.Rows.FactsT2
import PyProof.ZipIter
import PyProof.WalksEnum
import PyProof.EnumMake
import KE.KRevIter
import PyProof.CollectIter
import PyProof.EnumStmt
import KE.KTryMore
import OpenK.KMake
import PyProof.Rows.SeqMore2
import PyProof.FactsAll.str_0
import PyProof.FactsAll.str_5
import PyProof.FactsAll.str_7
import PyProof.FactsAll.tuple_2
import PyProof.FactsAll.tuple_3
import PyProof.MinMaxWalk
import PyProof.MeetsSeq
import PyProof.Rows.FStr
import PyProof.Rows.SetFrom
import PyProof.WalksMore
import PyProof.TupleIter
import PyProof.FactsAll.tuple_0
import PySem.Challenge.RW_pourwright_k66_are_layers
set_option linter.all false
set_option maxRecDepth 100000
set_option exponentiation.threshold 1000
set_option Elab.async false
namespace PySem.W.Fast
def tw965093777438990207:=0
def tw2309500310537942783:=0
def tw7221543003001670143:=0
def tw13957355356853483935:=0
def tw2296340465487736159:=0
def tw16834774005598638431:=0
def tw9637212080318162239:=0
def tw4930222437617372447:=0
def tw10839257256695384223:=0
def tw437545054946408607:=0
def tw12699759951834877918:=0
def tw15730041278623736734:=0
def tw5114949135984095070:=0
def tw8411885790834730590:=0
def tw17180981551657548126:=0
def tw12659028834025659678:=0
def tw17638478934244887806:=0
def tw6436203101374980222:=0
def tw1645787826305952862:=0
def tw8726781615878829053:=0
def tw8688095043779256925:=0
def tw3605977670959003644:=0
def tw2180141552654451676:=0
def tw9429292196907335580:=0
def tw10257057621841118044:=0
def tw14528938070738898620:=0
def tw9539137615966362076:=0
def tw6473879777596507388:=0
def tw6397006005836299452:=0
def tw8709549175963195484:=0
def tw15536564432608419900:=0
def tw4156803033546524507:=0
def tw11732967532476247803:=0
def tw4509327500801698523:=0
def tw13015916325488153115:=0
def tw4076716806138598907:=0
def tw9347958679124484347:=0
def tw2572976206026713147:=0
def tw14159752262202357722:=0
def tw4213236929760444026:=0
def tw18320136625264059994:=0
def tw10942499449217014138:=0
def tw9186154947728728346:=0
def tw15517394561383809114:=0
def tw1167080487171388249:=0
def tw4009700775046640185:=0
def tw271405307081573817:=0
def tw10456624011920161113:=0
def tw12008349462692866393:=0
def tw12898987100263947992:=0
def tw539012982825083384:=0
def tw365762049049897336:=0
def tw3528187449691612184:=0
def tw5884561888179042039:=0
def tw2636396605060929239:=0
def tw11957324101364708855:=0
def tw13835868040992295223:=0
def tw13501594811386398007:=0
def tw18309863123440442455:=0
def tw10880490393788948246:=0
def tw17074867349186519798:=0
def tw387801810988681238:=0
def tw68466245526704085:=0
def tw17860381934757860789:=0
def tw5873788681625012565:=0
def tw2261529958505338901:=0
def tw4995844121804356596:=0
def tw10760416755459786612:=0
def tw13995831146146824884:=0
def tw15747136176686619188:=0
def tw6697153971864032692:=0
def tw7543153307311699348:=0
def tw6842481908638199188:=0
def tw5379081587459064180:=0
def tw7755758334909675732:=0
def tw15256255299062891507:=0
def tw12657492710542281331:=0
def tw8984044167085857331:=0
def tw13027538896683108531:=0
def tw14296650250644259826:=0
def tw2242204780095594354:=0
def tw10385422781457984082:=0
def tw1810758530874680818:=0
def tw7432586722062233010:=0
def tw8297805431151867218:=0
def tw3329361281549330610:=0
def tw2548959453004114034:=0
def tw5289756426634370961:=0
def tw2849515274601295665:=0
def tw8023757741938866961:=0
def tw16351654240302421777:=0
def tw12986081684432599793:=0
def tw11648949324142240305:=0
def tw8526130532793740625:=0
def tw3502051901380866129:=0
def tw9263448633100058641:=0
def tw14820793801368046576:=0
def tw2417164969770524624:=0
def tw8451242296976897936:=0
def tw13570462757983422800:=0
def tw9787623196002643152:=0
def tw4485968792868637872:=0
def tw16910550128931491791:=0
def tw18409372108963626895:=0
def tw3795067111003911983:=0
def tw6988995732473329199:=0
def tw9470610057147823631:=0
def tw5601793551507596655:=0
def tw2869855450600040783:=0
def tw11453855854811326799:=0
def tw6567654710126165231:=0
def tw13431033675507064782:=0
def tw15262892758200874862:=0
def tw10725620474812093006:=0
def tw13373535976166826286:=0
def tw10496725567269612782:=0
def tw11015414337123849165:=0
def tw8660356046453621133:=0
def tw12613984272121357677:=0
def tw9348035068351535277:=0
def tw6932901829267203820:=0
def tw9318142523626520204:=0
def tw2064302517876009356:=0
def tw5324519430882426156:=0
def tw16482425802304037932:=0
def tw6947239328500681579:=0
def tw10876440550316977963:=0
def tw15641203339528745515:=0
def tw16055941043499162763:=0
def tw534773307917467530:=0
def tw15840318617259587306:=0
def tw4668321644021164714:=0
def tw18256259413243645322:=0
def tw14211128748902249738:=0
def tw344273808442937514:=0
def tw6420426630009354314:=0
def tw17319960515756979242:=0
def tw11932476694756542409:=0
def tw6955024504023720777:=0
def tw10597652523997026889:=0
def tw9363595348679365129:=0
def tw14496027344366722345:=0
def tw67165274849629832:=0
def tw10803906010816318856:=0
def tw6826599224548039912:=0
def tw16932387668630152135:=0
def tw18163244175961990759:=0
def tw6097987785471343143:=0
def tw2893821762827313575:=0
def tw3130516265141569831:=0
def tw4261474495347675367:=0
def tw13380561379395464327:=0
def tw9917367547952498438:=0
def tw11007810444753521382:=0
def tw17481263932813926054:=0
def tw5814240376732582374:=0
def tw11254603452024368486:=0
def tw17651947006664441030:=0
def tw16266351968465169478:=0
def tw8837240326276487077:=0
def tw7587279864621796165:=0
def tw11124982608846366341:=0
def tw10761158456477111781:=0
def tw420104292866468325:=0
def tw15377081849421650981:=0
def tw60376295525571589:=0
def tw5682064425126901764:=0
def tw5573874636937656131:=0
def tw14552671217519609539:=0
def tw5081199667120947715:=0
def tw18111435456188890243:=0
def tw15928937298746417283:=0
def tw9031034747139814114:=0
def tw8355202592532923970:=0
def tw9376000518063771170:=0
def tw13648573614965207490:=0
def tw3150520418727576994:=0
def tw4509997358294291490:=0
def tw8639910950516892706:=0
def tw7422350022888835009:=0
def tw18182799583315833729:=0
def tw2082864586871798593:=0
def tw16142921900054788897:=0
def tw7753134159397604929:=0
def tw8706023876819642881:=0
def tw4793293698867497409:=0
def tw17723577414340717889:=0
def tw15210363059922799745:=0
def tw7688435615024830144:=0
def tw13305276068772615872:=0
def tw5556452273171664480:=0
def tw16386602663391180224:=0
def tw14606642621124078688:=0
def tw13077551567196267740:=0
def tw17874798435058027472:=0
end PySem.W.Fast
section
set_option Elab.async false
namespace L2
open PySem PySem.Spec PyProof.Rows
noncomputable abbrev Key:=Sum Int Str
noncomputable def Wax:Key→Value→Bool
 | .inl k,v=>Value.isInt k v
 | .inr x,v=>Value.isStrOf x v
noncomputable def keyH (w:World):Key→Int
 | .inl k=>hashInt k
 | .inr x=>hashStr w x
theorem Xc:∀ {k:Key} {v:Value},Wax k v=true→(∃ i t,k=Sum.inl i∧v=Value.int i t)∨(∃ x t,k=Sum.inr x∧v=Value.str x t)
 | .inl i,v,h=>by
  obtain ⟨t,e⟩:=Value.isInt_shape (k:=i) (v:=v) h
  exact .inl ⟨i,t,rfl,e⟩
 | .inr x,v,h=>by
  obtain ⟨t,e⟩:=Value.isStrOf_shape (x:=x) (v:=v) h
  exact .inr ⟨x,t,rfl,e⟩
theorem Xax (i:Int) (t:Tok):Wax (.inl i) (.int i t)=true:=by simp [Wax,Value.isInt]
theorem Yax (x:Str) (t:Tok):Wax (.inr x) (.str x t)=true:=by simp [Wax,Value.isStrOf]
theorem key_ll (a b:Int):decide ((Sum.inl a:Key)=Sum.inl b)=(a == b):=by
 by_cases e:a=b
 ·subst e; simp
 ·have h:¬ (Sum.inl a:Key)=Sum.inl b:=fun q=>e (Sum.inl.inj q)
  rw [decide_eq_false h]
  exact (beq_eq_false_iff_ne.mpr e).symm
theorem key_rr (a b:Str):decide ((Sum.inr a:Key)=Sum.inr b)=decide (a=b):=by
 by_cases e:a=b
 ·subst e; simp
 ·have h:¬ (Sum.inr a:Key)=Sum.inr b:=fun q=>e (Sum.inr.inj q)
  rw [decide_eq_false h,decide_eq_false e]
theorem key_lr (a:Int) (b:Str):decide ((Sum.inl a:Key)=Sum.inr b)=false:=decide_eq_false (fun q=>nomatch q)
theorem key_rl (a:Str) (b:Int):decide ((Sum.inr a:Key)=Sum.inl b)=false:=decide_eq_false (fun q=>nomatch q)
noncomputable def Vd (prog:Program) (w:World):PySem.KeyKind prog w Key where
 is:=Wax
 hash:=keyH w
 inj:=fun v a b ha hb=>by
  rcases Xc ha with ⟨i,t,rfl,rfl⟩ | ⟨x,t,rfl,rfl⟩
  ·rcases Xc hb with ⟨j,u,rfl,e⟩ | ⟨y,u,rfl,e⟩
   ·injection e with e1 _; rw [e1]
   ·exact nomatch e
  ·rcases Xc hb with ⟨j,u,rfl,e⟩ | ⟨y,u,rfl,e⟩
   ·exact nomatch e
   ·injection e with e1 _; rw [e1]
 byValue:=fun k v h=>by
  rcases Xc h with ⟨i,t,rfl,rfl⟩ | ⟨x,t,rfl,rfl⟩ <;> rfl
 pyHash:=fun hv h=>by
  rcases Xc hv with ⟨i,t,rfl,rfl⟩ | ⟨x,t,rfl,rfl⟩
  ·exact wpAny_pyHash_int h
  ·exact wpAny_pyHash_str h
 eqBool:=fun hu hv h=>by
  rcases Xc hu with ⟨i,t,rfl,rfl⟩ | ⟨x,t,rfl,rfl⟩
  ·rcases Xc hv with ⟨j,u,rfl,rfl⟩ | ⟨y,u,rfl,rfl⟩
   ·rw [key_ll] at h; exact wpAny_eqBool_int h
   ·rw [key_lr] at h; exact SeqAt.EqAt.int_str i t y u _ _ _ _ h
  ·rcases Xc hv with ⟨j,u,rfl,rfl⟩ | ⟨y,u,rfl,rfl⟩
   ·rw [key_rl] at h; exact SeqAt.EqAt.str_int x t j u _ _ _ _ h
   ·rw [key_rr] at h; exact wpAny_eqBool_str h
 «strs»:=fun k x t v h=>by
  rcases Xc h with ⟨i,u,rfl,e⟩ | ⟨y,u,rfl,e⟩
  ·exact nomatch e
  ·injection e with e1 _
   subst e1
   cases v <;> rfl
theorem Za6 (prog:Program) (w:World) (i:Int) (t:Tok):(Vd prog w).is (.inl i) (.int i t)=true:=Xax i t
theorem Va5 (prog:Program) (w:World) (x:Str) (t:Tok):(Vd prog w).is (.inr x) (.str x t)=true:=Yax x t
end L2
namespace L2
open PySem PySem.Spec PyProof.Rows
inductive V where
 | non | bl (b:Bool) | int (i:Int) | str (x:Str) | byt (b:Array UInt8) | flt (b:UInt64) | ref (a:Addr) | ty (n:String)
 deriving DecidableEq
noncomputable def RelV:V→Value→Prop
 | .non,u=>u=Value.none
 | .bl b,u=>u=Value.bool b
 | .int i,u=>∃ t,u=Value.int i t
 | .str x,u=>∃ t,u=Value.str x t
 | .byt b,u=>∃ t,u=Value.bytes b t
 | .flt b,u=>∃ t,u=Value.float b t
 | .ref a,u=>u=Value.ref a
 | .ty n,u=>u=Value.type n
noncomputable abbrev Vals:List V→List Value→Prop:=Paired RelV
theorem Vals.length {xs:List V} {us:List Value} (r:Vals xs us):xs.length=us.length:=Paired.length r
theorem Vals.get:∀ {xs:List V} {us:List Value} {i:Nat} {x:V},Vals xs us→xs[i]? = some x→∃ u,us[i]? = some u∧RelV x u
 | _,_,_,_,.nil,e=>by simp at e
 | _,_,0,_,.cons r _,e=>by simp at e; subst e; exact ⟨_,rfl,r⟩
 | _,_,i + 1,x,.cons _ t,e=>by
  obtain ⟨u,h1,h2⟩:=Vals.get (i:=i) (x:=x) t (by simpa using e)
  exact ⟨u,by simpa using h1,h2⟩
theorem Vals.set {x:V} {u:Value} (r:RelV x u):∀ {xs:List V} {us:List Value} (i:Nat),Vals xs us→Vals (xs.set i x) (us.set i u)
 | _,_,_,.nil=>.nil
 | _,_,0,.cons _ t=>.cons r t
 | _,_,i + 1,.cons q t=>.cons q (Vals.set r i t)
theorem Vals.append:∀ {xs ys:List V} {us ws:List Value},Vals xs us→Vals ys ws→Vals (xs ++ ys) (us ++ ws)
 | _,_,_,_,.nil,s=>s
 | _,_,_,_,.cons r t,s=>.cons r (Vals.append t s)
theorem Vals.take:∀ {xs:List V} {us:List Value} (n:Nat),Vals xs us→Vals (xs.take n) (us.take n)
 | _,_,0,_=>.nil
 | _,_,_ + 1,.nil=>.nil
 | _,_,n + 1,.cons r t=>.cons r (Vals.take n t)
theorem Vals.drop:∀ {xs:List V} {us:List Value} (n:Nat),Vals xs us→Vals (xs.drop n) (us.drop n)
 | _,_,0,r=>r
 | _,_,_ + 1,.nil=>.nil
 | _,_,n + 1,.cons _ t=>Vals.drop n t
noncomputable def RelO:Option V→Option Value→Prop
 | some v,some u=>RelV v u
 | none,none=>True
 | _,_=>False
noncomputable def KV {κ:Type}:List (κ×V)→List (κ×Value)→Prop:=Paired fun (p:κ×V) (q:κ×Value)=>p.1=q.1∧RelV p.2 q.2
noncomputable def kV:Key→V
 | .inl i=>.int i
 | .inr x=>.str x
inductive HO where
  | lst (xs:List V)
  | tup (xs:List V)
  | dK (kvs:List (Key×V)) | dT (kvs:List (List Key×V))
  | set (S:Int→Bool) (n:Nat)
  | ins (C dx:Addr) (fs:List (Str×V))
  | own (x:Addr)
  | xd (fs:List (Str×V))
  | met (f x:Addr)
  | rng (lo hi:Int)
  | frz (o:Obj) (u:HO)
  | tbl (ps:Array Value)
  | ext (φ:Heap→Prop)
noncomputable abbrev Hp:=Addr→Option HO
noncomputable def upd (H:Hp) (a:Addr) (o:HO):Hp:=fun b=>if b=a then some o else H b
theorem Wb {H:Hp} {a:Addr} {o:HO}:upd H a o a=some o:=by unfold upd; rw [if_pos rfl]
theorem Va {H:Hp} {a b:Addr} {o:HO} (h:b≠a):upd H a o b=H b:=by unfold upd; rw [if_neg h]
theorem ne_of {H:Hp} {a b:Addr} {o u:HO} (h:H a=some o) (h':H b=some u) (d:o≠u):a≠b:=by
 intro e; subst e; rw [h] at h'; exact d (Option.some.inj h')
theorem Xe {H:Hp} {a b:Addr} {o:HO} (h:H a=some o) (h':H b=none):a≠b:=by
 intro e; subst e; rw [h] at h'; cases h'
noncomputable def IsTupN (h:Heap) (a:Addr) (items:Array Value):Prop:=∃ o,h.get? a=some o∧o.cls = .type "tuple"∧∃ n,o.data = .seq items n∧o.dict=none
theorem IsTupN.is {h:Heap} {a:Addr} {items:Array Value} (x:IsTupN h a items):IsTup h a items:=by obtain ⟨o,e,c,n,d,_⟩:=x; exact ⟨o,e,c,n,d⟩
theorem IsTupN.lt {h:Heap} {a:Addr} {items:Array Value} (x:IsTupN h a items):a < h.objs.size:=by obtain ⟨o,e,_⟩:=x; exact Heap.lt_size e
theorem IsTupN.new (h:Heap) (items:Array Value):IsTupN (h.push { cls:=.type "tuple",data:=.seq items }) h.objs.size items:=⟨_,Heap.get?_push_size _ rfl,rfl,_,rfl,rfl⟩
section
variable (P:Program) (w:World)
noncomputable def ObjOk (H:Hp) (h:Heap) (a:Addr):HO→Prop
 | .lst xs=>xs.length≤sizeLine∧∃ (its:List Value) (n:Nat),Vals xs its∧h.get? a=some { cls:=.type "list",data:=.seq its.toArray n }
 | .tup xs=>xs.length≤sizeLine∧∃ its:List Value,Vals xs its∧IsTupN h a its.toArray
 | .dK kvs=>kvs.length≤sizeLine∧(a == sysModules)=false∧∃ vs,KV kvs vs∧h.DictOf (Vd P w) a vs
 | .dT kvs=>kvs.length≤sizeLine∧(a == sysModules)=false∧∃ xs:List (List Key×Addr×Value),
   Paired (fun (p:List Key×V) (q:List Key×Addr×Value)=>p.1=q.1∧H q.2.1=some (.tup (p.1.map kV))∧RelV p.2 q.2.2) kvs xs ∧
   ∃ o es ep,h.get? a=some o∧o.ExactDict∧o.data = .dict es ep∧es.toList=xs.map (entryOfKey (tupleKind (Vd P w)))∧(xs.map (·.1)).Nodup
 | .set S n=>h.SetOf (intKind P w) a S n
 | .ins C dx fs=>H dx=some (.own a)∧fs.length≤1000∧dx≠a∧h.get? a=some (PySem.W.instObj C dx) ∧
   ∃ mA,h.Ns1 dx mA∧(∀ f,RelO (fs.lookup f) (mA f))∧PySem.Within mA (fs.map (·.1))
 | .own _=>∃ o,h.get? a=some o
 | .xd fs=>∃ mA,h.Ns1 a mA∧∀ f,RelO (fs.lookup f) (mA f)
 | .rng lo hi=>∃ t u v,h.get? a=some { cls:=.type "range",data:=.fields #[.int lo t,.int hi u,.int 1 v] }
 | .frz o u=>h.get? a=some o∧ObjOk H h a u
 | .tbl ps=>h.get? a=some { cls:=.none,data:=.fields ps }
 | .met f x=>h.get? a=some (PySem.W.methodObj (.ref f) (.ref x))
 | .ext φ=>φ h∧(∃ o,h.get? a=some o)∧∀ h1 h2:Heap,φ h1→(∀ o,h1.get? a=some o→h2.get? a=some o)→φ h2
noncomputable def HOk (H:Hp) (h:Heap):Prop:=∀ a o,H a=some o→ObjOk P w H h a o
end
section
variable {P:Program} {w:World} {H H':Hp} {h h':Heap} {a:Addr} {o:HO}
theorem ObjOk.lt (x:ObjOk P w H h a o):a < h.objs.size:=by
 cases o with
 | lst xs=>obtain ⟨_,_,_,_,e⟩:=x; exact Heap.lt_size e
 | tup xs=>obtain ⟨_,_,_,p⟩:=x; exact p.lt
 | dK kvs=>obtain ⟨_,_,_,_,o,_,_,e,_⟩:=x; exact Heap.lt_size e
 | dT kvs=>obtain ⟨_,_,_,_,o,_,_,e,_⟩:=x; exact Heap.lt_size e
 | set S n=>obtain ⟨o,_,_,_,e,_⟩:=x; exact Heap.lt_size e
 | ins C dx fs=>obtain ⟨_,_,_,e,_⟩:=x; exact Heap.lt_size e
 | own y=>obtain ⟨_,e⟩:=x; exact Heap.lt_size e
 | xd fs=>obtain ⟨_,⟨_,_,_,e,_⟩,_⟩:=x; exact Heap.lt_size e
 | rng lo hi=>obtain ⟨_,_,_,e⟩:=x; exact Heap.lt_size e
 | frz ob u=>obtain ⟨e,_⟩:=x; exact Heap.lt_size e
 | tbl ps=>exact Heap.lt_size (show h.get? a=some _ from x)
 | met f y=>exact Heap.lt_size (show h.get? a=some _ from x)
 | ext φ=>obtain ⟨_,⟨_,e⟩,_⟩:=x; exact Heap.lt_size e
theorem Paired.mapP {α β:Type} {F G:α→β→Prop}:∀ {l₁:List α} {l₂:List β},Paired F l₁ l₂→(∀ a b,F a b→G a b)→Paired G l₁ l₂
 | _,_,.nil,_=>.nil
 | _,_,.cons r t,f=>.cons (f _ _ r) (Paired.mapP t f)
theorem ObjOk.stay (x:ObjOk P w H h a o) (k:∀ b u,(b=a∨H b=some (.own a))→h.get? b=some u→h'.get? b=some u)
  (ho:∀ b,H b=some (.own a)→H' b=some (.own a)) (ht:∀ b xs,H b=some (.tup xs)→H' b=some (.tup xs)):ObjOk P w H' h' a o:=by
 induction o with
 | lst xs=>obtain ⟨z,its,n,r,e⟩:=x; exact ⟨z,its,n,r,k _ _ (.inl rfl) e⟩
 | tup xs=>obtain ⟨z,its,r,ob,e,c⟩:=x; exact ⟨z,its,r,ob,k _ _ (.inl rfl) e,c⟩
 | dK kvs=>obtain ⟨z,y,vs,r,ob,es,ep,e,c⟩:=x; exact ⟨z,y,vs,r,ob,es,ep,k _ _ (.inl rfl) e,c⟩
 | dT kvs =>
  obtain ⟨z,y,xs,r,ob,es,ep,e,c⟩:=x
  exact ⟨z,y,xs,Paired.mapP r fun p q z=>⟨z.1,ht _ _ z.2.1,z.2.2⟩,ob,es,ep,k _ _ (.inl rfl) e,c⟩
 | set S n=>obtain ⟨ob,es,ep,t,e,c⟩:=x; exact ⟨ob,es,ep,t,k _ _ (.inl rfl) e,c⟩
 | ins C dx fs =>
  obtain ⟨d,z,ne,e,mA,⟨od,es,ep,e2,c⟩,r⟩:=x
  exact ⟨ho _ d,z,ne,k _ _ (.inl rfl) e,mA,⟨od,es,ep,k _ _ (.inr d) e2,c⟩,r⟩
 | own y=>obtain ⟨ob,e⟩:=x; exact ⟨ob,k _ _ (.inl rfl) e⟩
 | xd fs=>obtain ⟨mA,⟨od,es,ep,e,c⟩,r⟩:=x; exact ⟨mA,⟨od,es,ep,k _ _ (.inl rfl) e,c⟩,r⟩
 | rng lo hi=>obtain ⟨t,u,v,e⟩:=x; exact ⟨t,u,v,k _ _ (.inl rfl) e⟩
 | frz ob u ih=>obtain ⟨e,q⟩:=x; exact ⟨k _ _ (.inl rfl) e,ih q⟩
 | tbl ps =>
  have e:h.get? a=some { cls:=.none,data:=.fields ps }:=x
  show h'.get? a=some { cls:=.none,data:=.fields ps }
  exact k a _ (.inl rfl) e
 | met f y =>
  have e:h.get? a=some (PySem.W.methodObj (.ref f) (.ref y)):=x
  show h'.get? a=some (PySem.W.methodObj (.ref f) (.ref y))
  exact k a _ (.inl rfl) e
 | ext φ=>obtain ⟨p,⟨o,e⟩,st⟩:=x; exact ⟨st _ _ p fun o q=>k _ _ (.inl rfl) q,⟨o,k _ _ (.inl rfl) e⟩,st⟩
theorem HOk.lt (x:HOk P w H h) (e:H a=some o):a < h.objs.size:=(x a o e).lt
theorem HOk.fresh (x:HOk P w H h) (e:h.objs.size≤a):H a=none:=by
 cases q:H a with
 | none=>rfl
 | some u=>exact absurd (Nat.lt_of_lt_of_le (x.lt q) e) (Nat.lt_irrefl _)
theorem HOk.kept (x:HOk P w H h) (k:∀ b u,h.get? b=some u→h'.get? b=some u):HOk P w H h':=fun a o e =>
 (x a o e).stay (fun b u _ q=>k b u q) (fun _ q=>q) fun _ _ q=>q
theorem HOk.laid (x:HOk P w H h) (k:∀ b u,h.get? b=some u→h'.get? b=some u) (hp:h.objs.size≤a) (new:ObjOk P w (upd H a o) h' a o):HOk P w (upd H a o) h':=fun b u e=>by
 have hn:=x.fresh hp
 by_cases hb:b=a
 ·subst hb; rw [Wb] at e; cases e; exact new
 ·rw [Va hb] at e
  exact (x b u e).stay (fun c v _ q=>k c v q) (fun c q=>by rw [Va (Xe q hn)]; exact q) fun c xs q=>by rw [Va (Xe q hn)]; exact q
end
noncomputable def Rd (H:Hp) (a:Addr) (u:HO):Prop:=H a=some u∨∃ o,H a=some (.frz o u)
theorem Rd.of {H:Hp} {a:Addr} {u:HO} (h:H a=some u):Rd H a u:=.inl h
theorem Rd.ok {P:Program} {w:World} {H:Hp} {h:Heap} {a:Addr} {u:HO} (r:Rd H a u) (x:HOk P w H h):ObjOk P w H h a u:=by
 rcases r with r | ⟨o,r⟩
 ·exact x a u r
 ·obtain ⟨_,q⟩:=x a _ r
  exact q
noncomputable def Mut:Option HO→Prop
 | some (.lst _)=>True
 | some (.dK _)=>True
 | some (.dT _)=>True
 | some (.set _ _)=>True
 | some (.ins _ _ _)=>True
 | some (.ext _)=>True
 | _=>False
section
variable {P:Program} {w:World} {H:Hp} {h h':Heap} {x e:Addr} {o':HO}
theorem HOk.write (ok:HOk P w H h) (mu:Mut (H x)) (he:e=x∨H e=some (.own x)) (k:∀ b u,b≠e→h.get? b=some u→h'.get? b=some u) (heo:∃ u,h'.get? e=some u)
  (new:ObjOk P w (upd H x o') h' x o'):HOk P w (upd H x o') h':=fun b u q=>by
 have nown:∀ c y,H c=some (.own y)→c≠x:=fun c y r z=>by subst z; rw [r] at mu; exact mu
 have ntup:∀ c xs,H c=some (.tup xs)→c≠x:=fun c xs r z=>by subst z; rw [r] at mu; exact mu
 by_cases hb:b=x
 ·subst hb; rw [Wb] at q; cases q; exact new
 ·rw [Va hb] at q
  by_cases hbe:b=e
  ·have q':H b=some (.own x):=by
    rcases he with z | z
    ·exact absurd (hbe.trans z) hb
    ·rw [hbe]; exact z
   rw [q] at q'; cases q'
   obtain ⟨v,hv⟩:=heo
   exact ⟨v,by rw [hbe]; exact hv⟩
  ·refine (ok b u q).stay (fun c v hc r=>k c v ?_ r) (fun c r=>by rw [Va (nown c b r)]; exact r) fun c xs r=>by rw [Va (ntup c xs r)]; exact r
   rcases hc with rfl | hc
   ·exact hbe
   ·rintro rfl
    rcases he with z | z
    ·exact nown c b hc z
    ·rw [hc] at z; cases z; exact hb rfl
end
structure Un (fs ex:List Addr) (H H':Hp) (h h':Heap):Prop where
 keep:∀ b o,h.get? b=some o→H b=none→b ∉ fs→b ∉ ex→h'.get? b=some o
 slot:∀ b o,h.get? b=some o→H b=none→b∈fs→b ∉ ex→∃ sl,h'.get? b=some { o with slots:=sl }
 free:∀ b o,h.get? b=some o→H b=none→b ∉ ex→H' b=none
 there:∀ b o,h.get? b=some o→b ∉ ex→∃ o',h'.get? b=some o'
 tups:∀ b xs,H b=some (.tup xs)→H' b=some (.tup xs)
 frzs:∀ b o u,H b=some (.frz o u)→H' b=some (.frz o u)
 tbls:∀ b ps,H b=some (.tbl ps)→∃ more,H' b=some (.tbl (ps ++ more))
section
variable {fs fs' ex ex':List Addr} {H H1 H2:Hp} {h h1 h2 h':Heap} {a x e:Addr} {o:HO}
theorem Un.any (u:Un fs ex H H1 h h1) {b:Addr} {ob:Obj} (q:h.get? b=some ob) (n:H b=none) (hx:b ∉ ex):∃ sl,h1.get? b=some { ob with slots:=sl }:=by
 by_cases hb:b∈fs
 ·exact u.slot b ob q n hb hx
 ·exact ⟨ob.slots,u.keep b ob q n hb hx⟩
theorem Un.trans (a:Un fs ex H H1 h h1) (b:Un fs ex H1 H2 h1 h2):Un fs ex H H2 h h2 where
 keep:=fun c ob q n hc hx=>b.keep c ob (a.keep c ob q n hc hx) (a.free c ob q n hx) hc hx
 slot:=fun c ob q n hc hx=>by
  obtain ⟨sl,e1⟩:=a.slot c ob q n hc hx
  obtain ⟨sl',e2⟩:=b.slot c _ e1 (a.free c ob q n hx) hc hx
  exact ⟨sl',e2⟩
 free:=fun c ob q n hx=>by
  obtain ⟨o',e1⟩:=a.there c ob q hx
  exact b.free c o' e1 (a.free c ob q n hx) hx
 there:=fun c ob q hx=>by
  obtain ⟨o',e1⟩:=a.there c ob q hx
  exact b.there c o' e1 hx
 tups:=fun c xs q=>b.tups c xs (a.tups c xs q)
 frzs:=fun c ob xs q=>b.frzs c ob xs (a.frzs c ob xs q)
 tbls:=fun c ps q=>by
  obtain ⟨m1,e1⟩:=a.tbls c ps q
  obtain ⟨m2,e2⟩:=b.tbls c _ e1
  exact ⟨m1 ++ m2,by rw [e2,Array.append_assoc]⟩
theorem Un.kept (k:∀ b u,h.get? b=some u→h'.get? b=some u):Un fs ex H H h h' :=
 ⟨fun b ob q _ _ _=>k b ob q,fun b ob q _ _ _=>⟨ob.slots,k b ob q⟩,fun _ _ _ n _=>n,fun b ob q _=>⟨ob,k b ob q⟩,fun _ _ q=>q,fun _ _ _ q=>q,fun _ ps q=>⟨#[],by rw [q]; simp⟩⟩
theorem Un.refl:Un fs ex H H h h:=Un.kept fun _ _ q=>q
theorem Un.laid (k:∀ b u,h.get? b=some u→h'.get? b=some u) (hp:h.objs.size≤a) (hn:H a=none):Un fs ex H (upd H a o) h h' where
 keep:=fun b u q _ _ _=>k b u q
 slot:=fun b u q _ _ _=>⟨u.slots,k b u q⟩
 free:=fun b u q n _=>by rw [Va (Nat.ne_of_lt (Nat.lt_of_lt_of_le (Heap.lt_size q) hp))]; exact n
 there:=fun b u q _=>⟨u,k b u q⟩
 tups:=fun b xs q=>by rw [Va (Xe q hn)]; exact q
 frzs:=fun b u xs q=>by rw [Va (Xe q hn)]; exact q
 tbls:=fun b ps q=>⟨#[],by rw [Va (Xe q hn),q]; simp⟩
theorem Un.write (mu:Mut (H x)) (he:e=x∨H e=some (.own x)) (k:∀ b u,b≠e→h.get? b=some u→h'.get? b=some u) (heo:∃ u,h'.get? e=some u):Un fs ex H (upd H x o) h h':=by
 have hx:∀ b,H b=none→b≠x:=fun b n z=>by subst z; rw [n] at mu; exact mu
 have hb:∀ b,H b=none→b≠e:=fun b n z=>by
  subst z
  rcases he with r | r
  ·exact hx b n r
  ·rw [n] at r; cases r
 have hm:∀ b u,H b=some u→¬ Mut (some u)→b≠x:=fun b u q nm z=>by subst z; rw [q] at mu; exact nm mu
 refine ⟨fun b u q n _ _=>k b u (hb b n) q,fun b u q n _ _=>⟨u.slots,k b u (hb b n) q⟩,fun b u q n _=>by rw [Va (hx b n)]; exact n,fun b u q _=>?_,
  fun b xs q=>by rw [Va (hm b _ q fun z=>z)]; exact q,fun b u xs q=>by rw [Va (hm b _ q fun z=>z)]; exact q,fun b ps q=>⟨#[],by rw [Va (hm b _ q fun z=>z),q]; simp⟩⟩
 by_cases hbe:b=e
 ·subst hbe; exact heo
 ·exact ⟨u,k b u hbe q⟩
theorem Un.mono (u:Un fs ex H H1 h h1) (hs:∀ b∈fs,b∈fs') (hx:∀ b∈ex,b∈ex'):Un fs' ex' H H1 h h1 :=
 ⟨fun b ob q n hb he=>u.keep b ob q n (fun z=>hb (hs b z)) fun z=>he (hx b z),fun _ _ q n _ he=>u.any q n fun z=>he (hx _ z),fun b ob q n he=>u.free b ob q n fun z=>he (hx b z),fun b ob q he=>u.there b ob q fun z=>he (hx b z),u.tups,u.frzs,u.tbls⟩
end
noncomputable def trk (h:Heap) (H:Hp):List Addr:=(List.range h.objs.size).filter fun a=>(H a).isSome
noncomputable def hidT (h:Heap) (H:Hp):Heap:=PySem.W.hideAll h (trk h H)
theorem hidT_size (h:Heap) (H:Hp):(hidT h H).objs.size=h.objs.size:=PySem.W.hideAll_size _ _
theorem hidT_get {h:Heap} {H:Hp} {b:Addr} {o:Obj} (e:h.get? b=some o) (n:H b=none):(hidT h H).get? b=some o :=
 PySem.W.hideAll_get _ e fun hm=>by
  have q:(H b).isSome=true:=(List.mem_filter.mp hm).2
  rw [n] at q; simp at q
theorem of_hidT {h:Heap} {H:Hp} {b:Addr} {o:Obj} (e:(hidT h H).get? b=some o):h.get? b=some o∧H b=none:=by
 have e':h.get? b=some o:=PySem.W.of_hideAll (trk h H) e
 refine ⟨e',?_⟩
 cases q:H b with
 | none=>rfl
 | some x =>
  have hm:b∈trk h H:=List.mem_filter.mpr ⟨List.mem_range.mpr (Heap.lt_size e'),by simp [q]⟩
  have z:(hidT h H).get? b=none:=PySem.W.hideAll_none (trk h H) hm
  rw [z] at e; cases e
noncomputable def allNews (g h:Heap) (L:Addr):List (Addr×Obj):=(List.range h.objs.size).filterMap fun a=>if a=L∨(g.get? a).isSome=true then none else (h.get? a).map fun o=>(a,o)
noncomputable def rest (g h:Heap) (L d:Addr):List (Addr×Obj):=(allNews g h L).filter fun p=>decide (p.1≠d)
end L2
namespace L2
open PySem PySem.Spec PyProof.Rows
noncomputable def HdS (A:Around) (h:Heap):Prop:=∀ v,A.handled=some v→∃ x o vs,v = .ref x∧h.get? x=some o∧o.data = .fields vs∧vs[2]? = some .none
section
variable {prog:Program} {w:World} {A:Around} {E:Value→Shared→Prop} {s:Shared}
theorem Wan:entryFor table "proto.unchain" = some Builtin.«proto.unchain»:=entryFor_of_tree (by kernel_rfl)
theorem raise_hd {α:Type} {a:Addr} {o:Obj} {vs:Array Value} {Q:α→Shared→Prop} (hh:HdS A s.heap) (ho:s.heap.get? a=some o) (hd:o.data = .fields vs) (hz:2 < vs.size)
  (hE:∀ h' o',h'.get? a=some o'→o'.cls=o.cls→Heap.SameBut a s.heap h'→E (.ref a) { s with heap:=h' }):wpAny (model prog w) A (raiseNew (.ref a)) Q E s:=by
 obtain ⟨oc,od,dt,sl⟩:=o
 cases hd
 unfold raiseNew
 refine wpAny_bind (wpAny_handled ?_)
 cases q:A.handled with
 | none=>exact wpAny_throw (hE s.heap _ ho rfl (Heap.SameBut.refl ..))
 | some v =>
  obtain ⟨x,ox,ws,rfl,hx,hxd,hx2⟩:=hh v q
  show wpAny _ _ (if (Value.ref x != Value.ref a)=true then _ else _) _ _ s
  by_cases e:(Value.ref x != Value.ref a)=true
  ·rw [if_pos e]
   refine wpAny_bind (wpAny_holding (wpAny_runValue (codeAny_builtin Wan ?_)))
   unfold Builtin.«proto.unchain»
   refine wpAny_bind (wpAny_field hx hxd hx2 ?_)
   refine wpAny_pure ?_
   show wpAny _ _ (updateField a 2 (.ref x) >>= _) _ _ s
   unfold updateField
   refine wpAny_bind (wpAny_bind (wpAny_load ho ?_))
   show wpAny _ _ (if 2 < vs.size then _ else _) _ _ s
   rw [if_pos hz]
   refine wpAny_update ho (wpAny_throw ?_)
   exact hE _ _ (Heap.get?_update_self _ ho rfl) rfl (Heap.SameBut.update ..)
  ·rw [if_neg e]
   exact wpAny_throw (hE s.heap _ ho rfl (Heap.SameBut.refl ..))
theorem stop_objs {α:Type} {it:Addr} {Q:α→Shared→Prop} (hh:HdS A s.heap) (k:∀ h' a o,h'.get? a=some o→o.cls = .type "StopIteration"→Heap.ExtBut it s.heap h'→E (.ref a) { s with heap:=h' }) :
  wpAny (model prog w) A (do let e ← newExc (.type "StopIteration") []; raiseNew e) Q E s:=by
 refine wpAny_bind ?_
 simp only [newExc,newTuple]
 refine wpAny_bind (wpAny_newObj_type (wpAny_bind (m:=firstArgMember _ _) (wpAny_of_eq (a:=Value.none) (by first | rfl | (simp only [firstArgMember]; rfl)) (wpAny_newObj_type ?_ (by size_fits)))) (by size_fits))
 refine raise_hd (vs:=#[.ref s.heap.objs.size,.none,.none,.none,.bool false,.none] ++ ownMembersOf (.type "StopIteration") []) (fun v q=>?_) (Heap.get?_push_size _ rfl) rfl (by simp [ownMembersOf]) fun h' o' e1 e2 sb=>k _ _ _ e1 e2 fun b o hb e=>?_
 ·obtain ⟨x,o,vs,e,h1,h2,h3⟩:=hh v q
  exact ⟨x,o,vs,e,Heap.get?_push_of_some _ (Heap.get?_push_of_some _ h1),h2,h3⟩
 ·refine (sb.2 b ?_).trans (Heap.get?_push_of_some _ (Heap.get?_push_of_some _ e))
  have h2:(s.heap.push { cls:=.type "tuple",data:=.seq #[] }).objs.size=s.heap.objs.size + 1:=by simp [Heap.push]
  have h3:s.heap.objs.size≤(s.heap.push { cls:=.type "tuple",data:=.seq #[] }).objs.size:=by omega
  rintro rfl
  exact absurd (Nat.lt_of_lt_of_le (Heap.lt_size e) h3) (Nat.lt_irrefl _)
theorem range_endH {it:Addr} {x left c:Int} {Q:Option Value→Shared→Prop} (hh:HdS A s.heap) (hI:IsRangeIter s.heap it x left c) (z:left≤0) (k:∀ h',Heap.ExtBut it s.heap h'→Q none { s with heap:=h' }):wpAny (model prog w) A (pyNext (.ref it)) Q E s:=by
 have ty:s.TypeIs (.ref it) "range_iterator":=⟨_,hI,rfl⟩
 unfold pyNext
 refine wpAny_bind (wpAny_attempt (wpAny_callSpecial?_slot (name:=Str.ofString "__next__") ty F.slot_range_iterator_next (wpAny_call_entry F.slot_range_iterator_next ty F.entry_range_iterator_next ?_ (F.args_range_iterator_next_1 _))))
 refine (show wpAny _ _ (do let a ← field (.ref it) 0; _) _ _ s from wpAny_bind (wpAny_field hI rfl (x:=rawInt x) rfl ?_))
 refine (show wpAny _ _ (do let a ← field (.ref it) 1; _) _ _ s from wpAny_bind (wpAny_field hI rfl (x:=rawInt left) rfl ?_))
 refine (show wpAny _ _ (do let a ← field (.ref it) 2; _) _ _ s from wpAny_bind (wpAny_field hI rfl (x:=rawInt c) rfl ?_))
 show wpAny _ _ (ite (left≤0) _ _) _ _ s
 rw [if_pos z]
 refine wpAny_bind (wpAny_rule (wpAny_bind (stop_objs (it:=it) hh fun h' a o e1 e2 eb=>?_)))
 exact wpAny_bind (wpAny_isInstance (T:="StopIteration") (b:=true) ⟨_,e1,e2⟩ isSubtype_stop (wpAny_pure (k _ eb)))
end
end L2
namespace L2
open PySem PySem.Spec PyProof.Rows
structure Mod (K:PySem.W.Frag) (mg:Str→Option Value) (base:Heap):Prop where
 kin:K.In base
 glob:base.Ns mainGlobals mg
 blt:∃ mb,base.Ns builtinsNs mb∧∀ x:Str,x≠"__name__"→mb x=bootBuiltins x
 nolimit:base.NoLimit
 sysm:∃ mm,base.Ns sysModules mm
noncomputable def HdOk (A:Around) (H:Hp):Prop:=∀ v,A.handled=some v→∃ x o u vs,v = .ref x∧H x=some (.frz o u)∧o.data = .fields vs∧vs[2]? = some .none
theorem HdOk.mono {A:Around} {H H':Hp} (x:HdOk A H) (f:∀ b o u,H b=some (.frz o u)→H' b=some (.frz o u)):HdOk A H':=fun v q =>
 let ⟨x,o,u,vs,e,h,r⟩:=x v q; ⟨x,o,u,vs,e,f _ _ _ h,r⟩
theorem HdOk.hds {P:Program} {w:World} {A:Around} {H:Hp} {h:Heap} (x:HdOk A H) (k:HOk P w H h):HdS A h:=fun v q =>
 let ⟨x,o,u,vs,e,y,r⟩:=x v q; ⟨x,o,vs,e,(show ObjOk P w H h x (.frz o u) from k _ _ y).1,r⟩
structure Cx where
 prog:Program
 w:World
 K:PySem.W.Frag
 mg:Str→Option Value
 base:Heap
 A:Around
 N:List Str
 s₀:Shared
 H₀:Hp
 env:Env
 outer:List Env
 stack:List Env
 ex:List Addr
 fn:Str→Bool
 calm:Bool
 pn:List (Addr×Obj)
 xe:Value→Shared→Prop
noncomputable def frs (l:List Env):List Addr:=l.filterMap (·.frame)
noncomputable abbrev Cx.fs (X:Cx):List Addr:=frs X.outer
noncomputable def Vis (sc:Scope) (x:Str):Prop:=sc.names.lookup x=some .local∨sc.names.lookup x=some .cell∨sc.names.lookup x=some .free
noncomputable def Loc (sc:Scope) (x:Str):Prop:=sc.names.lookup x=some .local∨sc.names.lookup x=some .cell
noncomputable def Look (env:Env) (h:Heap) (m:Str→Option Value) (x:Str) (u:Value):Prop :=
 (env.kindOf x=some .local∧m x=some u)∨((env.kindOf x=some .cell∨env.kindOf x=some .free)∧∃ c,env.cells.lookup x=some c∧h.IsCell c (some u))
structure Cx.Ok (X:Cx):Prop where
 mod:Mod X.K X.mg X.base
 kind:X.env.scope.kind = .function
 glob:X.env.globals=mainGlobals
 blt:X.env.builtins=builtinsNs
 above:X.s₀.heap.objs.size≤X.env.locals
 inj:∀ x y c,X.env.cells.lookup x=some c→X.env.cells.lookup y=some c→x=y
 has:∀ x,(X.env.kindOf x=some .cell∨X.env.kindOf x=some .free)→∃ c,X.env.cells.lookup x=some c
 cab:∀ x c,X.fn x=true→X.env.cells.lookup x=some c→X.s₀.heap.objs.size≤c
 hd:X.calm=true→X.A.handled=none
 frames:X.A.frames=some X.stack
 stk:X.stack=X.outer∨(X.stack=X.env :: X.outer∧X.env.frame=some X.env.locals)
 exf:∀ b∈X.ex,b≠X.env.locals∧∀ x c,X.env.cells.lookup x=some c→c≠b
 bs:∀ b o,X.base.get? b=some o→X.s₀.heap.get? b=some o∧X.H₀ b=none
 bsz:X.base.objs.size≤X.s₀.heap.objs.size
 noex:∀ b o,X.base.get? b=some o→b ∉ X.ex
 exfs:∀ b∈X.ex,b ∉ X.fs
 funs:X.s₀.heap.FunFrames X.base X.outer
 frf:∀ b∈X.fs,X.H₀ b=none
structure Inv (X:Cx) (pins:List (Addr×Obj)) (σ:List (Option V)) (H:Hp) (s:Shared):Prop where
 ok:X.Ok
 os:s.os=X.s₀.os
 bare:AllBare s.gens
 base:Un X.fs X.ex X.H₀ H X.s₀.heap s.heap
 loc:∃ m,s.heap.Ns X.env.locals m∧∀ (i:Nat) (x:Str) (v:V),X.N[i]? = some x→σ[i]? = some (some v)→Vis X.env.scope x→∃ u,RelV v u∧Look X.env s.heap m x u
 cell:∀ x c,X.env.cells.lookup x=some c→∃ v,s.heap.IsCell c v
 free:H X.env.locals=none
 freeC:∀ x c,X.env.cells.lookup x=some c→H c=none
 pin:∀ p∈X.pn ++ pins,s.heap.get? p.1=some p.2∧H p.1=none∧p.1≠X.env.locals∧p.1 ∉ X.fs∧∀ v,p.2.data≠.cell v
 hok:HOk X.prog X.w H s.heap
 len:σ.length=X.N.length
 hh:HdOk X.A H
section
variable {X:Cx} {pins:List (Addr×Obj)} {σ:List (Option V)} {H H':Hp} {s:Shared} {h':Heap}
theorem Cx.Ok.nofr (ok:X.Ok) {b:Addr} {o:Obj} (e:X.base.get? b=some o):b ∉ X.fs:=fun hb=>by
 have:=(ok.funs.mem hb).1
 rw [e] at this; cases this
theorem Inv.bs (I:Inv X pins σ H s):∀ b o,X.base.get? b=some o→s.heap.get? b=some o∧H b=none:=fun b o e =>
 ⟨I.base.keep b o (I.ok.bs b o e).1 (I.ok.bs b o e).2 (I.ok.nofr e) (I.ok.noex b o e),I.base.free b o (I.ok.bs b o e).1 (I.ok.bs b o e).2 (I.ok.noex b o e)⟩
theorem Inv.bk (I:Inv X pins σ H s):∀ b o,X.base.get? b=some o→s.heap.get? b=some o:=fun b o e=>(I.bs b o e).1
theorem Inv.mod (I:Inv X pins σ H s):Mod X.K X.mg X.base:=I.ok.mod
theorem Inv.kIn (I:Inv X pins σ H s):X.K.In s.heap:=I.ok.mod.kin.keeps I.bk
theorem Inv.nolimit (I:Inv X pins σ H s):s.heap.NoLimit:=I.ok.mod.nolimit.keeps I.bk
theorem Inv.fr (I:Inv X pins σ H s):∃ m,Fr X.base X.env.locals s.heap m :=
 let ⟨m,hn,_⟩:=I.loc
 ⟨m,hn,I.bk,Nat.le_trans I.ok.bsz I.ok.above⟩
theorem Inv.lt (I:Inv X pins σ H s):X.env.locals < s.heap.objs.size:=let ⟨_,hn,_⟩:=I.loc; hn.lt
theorem Inv.sz (I:Inv X pins σ H s):X.s₀.heap.objs.size≤s.heap.objs.size:=Nat.le_trans I.ok.above (Nat.le_of_lt I.lt)
theorem Inv.nofs (I:Inv X pins σ H s) {a:Addr} (h:s.heap.objs.size≤a):a ∉ X.fs:=fun hb=>by
 obtain ⟨_,o,ho,_⟩:=I.ok.funs.mem hb
 exact absurd (Nat.lt_of_lt_of_le (Heap.lt_size ho) (Nat.le_trans I.sz h)) (Nat.lt_irrefl _)
theorem Inv.cne (I:Inv X pins σ H s):∀ x c,X.env.cells.lookup x=some c→c≠X.env.locals:=fun x c e z=>by
 obtain ⟨v,o,ho,hd⟩:=I.cell x c e
 obtain ⟨m,⟨o',es,ep,ho',hd',_⟩,_⟩:=I.loc
 rw [z,ho'] at ho; cases ho; rw [hd'] at hd; cases hd
theorem Inv.funs (I:Inv X pins σ H s):s.heap.FunFrames X.base X.outer:=by
 have all:∀ (l:List Env),(∀ b∈frs l,b∈X.fs)→X.s₀.heap.FunFrames X.base l→s.heap.FunFrames X.base l:=by
  intro l
  induction l with
  | nil=>intro _ _; trivial
  | cons env r ih =>
   intro hs hl
   obtain ⟨hk,⟨L,o,hf,hn,ho,hd⟩,hr⟩:=hl
   have hL:L∈X.fs:=hs L (by unfold frs; rw [List.filterMap_cons,hf]; exact List.mem_cons_self)
   obtain ⟨sl,e⟩:=I.base.slot L o ho (I.ok.frf L hL) hL fun z=>I.ok.exfs L z hL
   exact ⟨hk,⟨L,_,hf,hn,e,hd⟩,ih (fun b hb=>hs b (by unfold frs; rw [List.filterMap_cons,hf]; exact List.mem_cons_of_mem _ hb)) hr⟩
 exact all X.outer (fun _ hb=>hb) I.ok.funs
theorem Inv.stack (I:Inv X pins σ H s):s.heap.FunFrames X.base X.stack:=by
 rcases I.ok.stk with e | ⟨e,hf⟩
 ·rw [e]; exact I.funs
 ·rw [e]
  obtain ⟨m,hn,_⟩:=I.loc
  refine .cons (by rw [I.ok.kind]; decide) hf hn ?_ I.funs
  exact Heap.get?_none_of_le (Nat.le_trans I.ok.bsz I.ok.above)
theorem Inv.stkSub (I:Inv X pins σ H s):∀ b∈frs X.stack,b∈X.env.locals :: X.fs:=fun b hb=>by
 rcases I.ok.stk with e | ⟨e,hf⟩
 ·rw [e] at hb; exact List.mem_cons_of_mem _ hb
 ·rw [e] at hb
  unfold frs at hb
  rw [List.filterMap_cons,hf] at hb
  exact hb
theorem Inv.stkFree (I:Inv X pins σ H s):∀ b∈frs X.stack,H b=none:=fun b hb=>by
 rcases List.mem_cons.mp (I.stkSub b hb) with e | hb
 ·rw [e]; exact I.free
 ·obtain ⟨_,o,ho,_⟩:=I.ok.funs.mem hb
  exact I.base.free b o ho (I.ok.frf b hb) fun z=>I.ok.exfs b z hb
theorem Inv.step {g':Array GenState} {t':Nat} {d':Drawn} {ch:List Addr} (I:Inv X pins σ H s)
  (hch:∀ b∈ch,(b∈X.ex∨X.s₀.heap.objs.size≤b)∧b≠X.env.locals∧(∀ x c,X.env.cells.lookup x=some c→c≠b)∧∀ p∈X.pn ++ pins,p.1≠b)
  (keep:∀ b o,b≠X.env.locals→b ∉ X.fs→b ∉ ch→s.heap.get? b=some o→H b=none→h'.get? b=some o)
  (slot:∀ b o,b≠X.env.locals→b∈X.fs→b ∉ ch→s.heap.get? b=some o→H b=none→∃ sl,h'.get? b=some { o with slots:=sl }) (free:∀ b o,b ∉ ch→s.heap.get? b=some o→H b=none→H' b=none)
  (there:∀ b o,b ∉ ch→s.heap.get? b=some o→∃ o',h'.get? b=some o')
  (tups:∀ b xs,H b=some (.tup xs)→H' b=some (.tup xs)) (frzs:∀ b o u,H b=some (.frz o u)→H' b=some (.frz o u)) (tbls:∀ b ps,H b=some (.tbl ps)→∃ more,H' b=some (.tbl (ps ++ more)))
  (ns:∀ m,s.heap.Ns X.env.locals m→h'.Ns X.env.locals m) (hok:HOk X.prog X.w H' h') (hg:AllBare g') :
  Inv X pins σ H' { s with heap:=h',gens:=g',drawn:=d',toks:=t' }:=by
 have neL:∀ b o,X.s₀.heap.get? b=some o→b≠X.env.locals:=fun b o e=>Nat.ne_of_lt (Nat.lt_of_lt_of_le (Heap.lt_size e) I.ok.above)
 have neC:∀ b o,X.s₀.heap.get? b=some o→b ∉ X.ex→b ∉ ch:=fun b o e hx hb=>by
  rcases (hch b hb).1 with z | z
  ·exact hx z
  ·exact absurd (Nat.lt_of_lt_of_le (Heap.lt_size e) z) (Nat.lt_irrefl _)
 have cellK:∀ x c,X.env.cells.lookup x=some c→∀ v,s.heap.IsCell c v→h'.IsCell c v:=fun x c e v ⟨o,ho,hd⟩=>by
  have nch:c ∉ ch:=fun z=>(hch c z).2.2.1 x c e rfl
  by_cases hc:c∈X.fs
  ·obtain ⟨sl,q⟩:=slot c o (I.cne x c e) hc nch ho (I.freeC x c e)
   exact ⟨_,q,hd⟩
  ·exact ⟨o,keep c o (I.cne x c e) hc nch ho (I.freeC x c e),hd⟩
 refine ⟨I.ok,I.os,hg,⟨fun b o e n hb hx=>?_,fun b o e n hb hx=>?_,fun b o e n hx=>?_,fun b o e hx=>?_,fun b xs e=>tups b xs (I.base.tups b xs e),fun b o xs e=>frzs b o xs (I.base.frzs b o xs e),fun b ps e=>?_⟩,?_,fun x c e=>?_,?_,fun x c e=>?_,fun p hp=>?_,hok,I.len,I.hh.mono frzs⟩
 ·exact keep b o (neL b o e) hb (neC b o e hx) (I.base.keep b o e n hb hx) (I.base.free b o e n hx)
 ·obtain ⟨sl,e1⟩:=I.base.slot b o e n hb hx
  obtain ⟨sl',e2⟩:=slot b _ (neL b o e) hb (neC b o e hx) e1 (I.base.free b o e n hx)
  exact ⟨sl',e2⟩
 ·obtain ⟨o',e1⟩:=I.base.there b o e hx
  exact free b o' (neC b o e hx) e1 (I.base.free b o e n hx)
 ·obtain ⟨o',e1⟩:=I.base.there b o e hx
  exact there b o' (neC b o e hx) e1
 ·obtain ⟨m1,e1⟩:=I.base.tbls b ps e
  obtain ⟨m2,e2⟩:=tbls b _ e1
  exact ⟨m1 ++ m2,by rw [e2,Array.append_assoc]⟩
 ·obtain ⟨m,hn,hl⟩:=I.loc
  refine ⟨m,ns m hn,fun i x v e1 e2 e3=>?_⟩
  obtain ⟨u,r,l⟩:=hl i x v e1 e2 e3
  refine ⟨u,r,?_⟩
  rcases l with l | ⟨k,c,e,z⟩
  ·exact .inl l
  ·exact .inr ⟨k,c,e,cellK x c e _ z⟩
 ·obtain ⟨v,z⟩:=I.cell x c e
  exact ⟨v,cellK x c e v z⟩
 ·obtain ⟨m,⟨o,_,_,ho,_⟩,_⟩:=I.loc
  exact free _ o (fun z=>(hch _ z).2.1 rfl) ho I.free
 ·obtain ⟨v,o,ho,hd⟩:=I.cell x c e
  exact free c o (fun z=>(hch c z).2.2.1 x c e rfl) ho (I.freeC x c e)
 ·obtain ⟨e,n,ne,nf,d⟩:=I.pin p hp
  have nch:p.1 ∉ ch:=fun z=>(hch p.1 z).2.2.2 p hp rfl
  exact ⟨keep p.1 p.2 ne nf nch e n,free p.1 p.2 nch e n,ne,nf,d⟩
theorem Inv.un {t':Nat} (I:Inv X pins σ H s) (u:Un X.fs [] H H' s.heap h') (hok:HOk X.prog X.w H' h'):Inv X pins σ H' { s with heap:=h',toks:=t' }:=by
 obtain ⟨m,⟨o,es,ep,ho,r⟩,_⟩:=id I.loc
 obtain ⟨sl,hL⟩:=u.any ho I.free (by simp)
 exact I.step (g':=s.gens) (d':=s.drawn) (ch:=[]) (fun _ z=>nomatch z) (fun b o _ hb _ e n=>u.keep b o e n hb (by simp)) (fun b o _ hb _ e n=>u.slot b o e n hb (by simp)) (fun b o _ e n=>u.free b o e n (by simp)) (fun b o _ e=>u.there b o e (by simp)) u.tups u.frzs u.tbls (fun m' hm=>by
  obtain ⟨o',es',ep',ho',r'⟩:=hm
  rw [ho] at ho'; cases ho'
  exact ⟨_,es',ep',hL,r'⟩) hok I.bare
theorem Inv.call {g':Array GenState} {t':Nat} {d':Drawn} {ch:List Addr} (I:Inv X pins σ H s) (u:Un (frs X.stack) ch H H' s.heap h') (hok:HOk X.prog X.w H' h') (hg:AllBare g')
  (hch:∀ b∈ch,(b∈X.ex∨X.s₀.heap.objs.size≤b)∧b≠X.env.locals∧(∀ x c,X.env.cells.lookup x=some c→c≠b)∧∀ p∈X.pn ++ pins,p.1≠b) :
  Inv X pins σ H' { s with heap:=h',gens:=g',drawn:=d',toks:=t' }:=by
 obtain ⟨m,⟨o,es,ep,ho,r⟩,_⟩:=id I.loc
 obtain ⟨sl,hL⟩:=u.any ho I.free fun z=>(hch _ z).2.1 rfl
 exact I.step (ch:=ch) hch (fun b o hL hb hc e n=>u.keep b o e n (fun z=>(List.mem_cons.mp (I.stkSub b z)).elim hL hb) hc) (fun b o _ _ hc e n=>u.any e n hc) (fun b o hc e n=>u.free b o e n hc) (fun b o hc e=>u.there b o e hc) u.tups u.frzs u.tbls (fun m' hm=>by
  obtain ⟨o',es',ep',ho',r'⟩:=hm
  rw [ho] at ho'; cases ho'
  exact ⟨_,es',ep',hL,r'⟩) hok hg
theorem Inv.turned {t':Nat} {it:Addr} (I:Inv X pins σ H s) (k:∀ b o,b≠it→s.heap.get? b=some o→h'.get? b=some o) (hn:H it=none) (hL:it≠X.env.locals)
  (h1:it∈X.ex∨X.s₀.heap.objs.size≤it) (h2:∀ x c,X.env.cells.lookup x=some c→c≠it) (h3:∀ p∈X.pn ++ pins,p.1≠it):Inv X pins σ H { s with heap:=h',toks:=t' }:=by
 have nit:∀ b u,H b=some u→b≠it:=fun b u e z=>by rw [z,hn] at e; cases e
 refine I.step (g':=s.gens) (d':=s.drawn) (ch:=[it]) (fun b hb=>?_) (fun b o _ _ hc e _=>k b o (fun z=>hc (by simp [z])) e) (fun b o _ _ hc e _=>⟨o.slots,k b o (fun z=>hc (by simp [z])) e⟩) (fun _ _ _ _ n=>n)
  (fun b o hc e=>⟨o,k b o (fun z=>hc (by simp [z])) e⟩) (fun _ _ e=>e) (fun _ _ _ e=>e) (fun b ps e=>⟨#[],by rw [e]; simp⟩) (fun m hm=>?_) (fun b u e=>?_) I.bare
 ·have e:b=it:=by simpa using hb
  subst e
  exact ⟨h1,hL,h2,h3⟩
 ·obtain ⟨o,es,ep,ho,r⟩:=hm
  exact ⟨o,es,ep,k _ o (Ne.symm hL) ho,r⟩
 ·refine (I.hok b u e).stay (fun c v hc q=>k c v ?_ q) (fun _ q=>q) fun _ _ q=>q
  rcases hc with z | z
  ·rw [z]; exact nit b u e
  ·exact nit c _ z
theorem Inv.tok (I:Inv X pins σ H s) (t:Nat):Inv X pins σ H { s with toks:=t }:=I.un (h':=s.heap) (t':=t) Un.refl I.hok
theorem Inv.kept {t':Nat} (I:Inv X pins σ H s) (k:∀ b u,s.heap.get? b=some u→h'.get? b=some u):Inv X pins σ H { s with heap:=h',toks:=t' }:=I.un (Un.kept k) (I.hok.kept k)
theorem Inv.laid {a:Addr} {o:HO} {t':Nat} (I:Inv X pins σ H s) (k:∀ b u,s.heap.get? b=some u→h'.get? b=some u) (hp:s.heap.objs.size≤a) (new:ObjOk X.prog X.w (upd H a o) h' a o) :
  Inv X pins σ (upd H a o) { s with heap:=h',toks:=t' }:=I.un (Un.laid k hp (I.hok.fresh hp)) (I.hok.laid k hp new)
theorem Inv.write {x e:Addr} {o:HO} {t':Nat} (I:Inv X pins σ H s) (mu:Mut (H x)) (he:e=x∨H e=some (.own x)) (k:∀ b u,b≠e→s.heap.get? b=some u→h'.get? b=some u) (heo:∃ u,h'.get? e=some u)
  (new:ObjOk X.prog X.w (upd H x o) h' x o):Inv X pins σ (upd H x o) { s with heap:=h',toks:=t' }:=I.un (Un.write mu he k heo) (I.hok.write mu he k heo new)
theorem Inv.pins_of {pins':List (Addr×Obj)} (I:Inv X pins σ H s) (h:∀ p∈pins',s.heap.get? p.1=some p.2∧H p.1=none∧p.1≠X.env.locals∧p.1 ∉ X.fs∧∀ v,p.2.data≠.cell v):Inv X pins' σ H s :=
 ⟨I.ok,I.os,I.bare,I.base,I.loc,I.cell,I.free,I.freeC,fun p hp=>(List.mem_append.mp hp).elim (fun z=>I.pin p (List.mem_append_left _ z)) (h p),I.hok,I.len,I.hh⟩
theorem Zbg {N:List Str} (hN:N.Nodup) {i j:Nat} {x:Str} (a:N[i]? = some x) (b:N[j]? = some x):i=j:=by
 obtain ⟨h1,e1⟩:=List.getElem?_eq_some_iff.mp a
 obtain ⟨h2,e2⟩:=List.getElem?_eq_some_iff.mp b
 exact (List.getElem_inj hN).mp (e1.trans e2.symm)
theorem Vat {M:Model} {A:Around} {E:Value→Shared→Prop} {i:Nat} {x:Str} {v:V} {u:Value} {Q:Unit→Shared→Prop} (I:Inv X pins σ H s) (hN:X.N.Nodup) (hi:X.N[i]? = some x) (hx:Loc X.env.scope x) (r:RelV v u)
  (h:∀ s',Inv X pins (σ.set i (some v)) H s'→(∃ a,Heap.SameBut a s.heap s'.heap∧(a=X.env.locals∨X.env.cells.lookup x=some a))→Q () s') (hf:X.fn x=true∨X.env.scope.names.lookup x=some .local:=by first | exact .inl rfl | exact .inr rfl | assumption):wpAny M A (storeName X.env x u) Q E s:=by
 obtain ⟨m,hn,hl⟩:=id I.loc
 have hcls:(X.env.scope.kind == .class || (X.env.scope.kind == .module && X.env.locals != X.env.globals))=false:=by rw [I.ok.kind]; rfl
 have hiσ:i < σ.length:=by rw [I.len]; exact (List.getElem?_eq_some_iff.mp hi).1
 have cne:=I.cne
 have tracked:∀ {a:Addr} {h':Heap},(∃ o,s.heap.get? a=some o∧H a=none)→Heap.SameBut a s.heap h'→HOk X.prog X.w H h':=fun {a h'} ha hs b ob e=>by
  obtain ⟨_,_,hfree⟩:=ha
  refine (I.hok b ob e).stay (fun c w' hc q=>(hs.2 c ?_).trans q) (fun _ q=>q) fun _ _ q=>q
  rintro rfl
  rcases hc with rfl | hc
  ·rw [hfree] at e; cases e
  ·rw [hfree] at hc; cases hc
 rcases hx with hk | hk
 ·refine wpAny_storeName_local hk hn (fun h' hn' hs=>?_) hcls
  obtain ⟨oL,_,_,hoL,_⟩:=id hn
  refine h _ ⟨I.ok,I.os,I.bare,⟨fun b o e n hb hx=>?_,fun b o e n hb hx=>?_,I.base.free,fun b o e hx=>?_,I.base.tups,I.base.frzs,I.base.tbls⟩,⟨_,hn',fun j y v' e1 e2 e3=>?_⟩,fun y c e=>?_,I.free,I.freeC,fun p hp=>?_,tracked ⟨oL,hoL,I.free⟩ hs,by simpa using I.len,I.hh⟩ ⟨_,hs,.inl rfl⟩
  ·exact (hs.2 b (Nat.ne_of_lt (Nat.lt_of_lt_of_le (Heap.lt_size e) I.ok.above))).trans (I.base.keep b o e n hb hx)
  ·obtain ⟨sl,e1⟩:=I.base.slot b o e n hb hx
   exact ⟨sl,(hs.2 b (Nat.ne_of_lt (Nat.lt_of_lt_of_le (Heap.lt_size e) I.ok.above))).trans e1⟩
  ·obtain ⟨o',e1⟩:=I.base.there b o e hx
   exact ⟨o',(hs.2 b (Nat.ne_of_lt (Nat.lt_of_lt_of_le (Heap.lt_size e) I.ok.above))).trans e1⟩
  ·by_cases hj:j=i
   ·subst hj
    rw [hi] at e1; cases e1
    rw [List.getElem?_set_self hiσ] at e2
    cases e2
    exact ⟨u,r,.inl ⟨hk,by simp⟩⟩
   ·rw [List.getElem?_set_ne (Ne.symm hj)] at e2
    obtain ⟨u',r',q⟩:=hl j y v' e1 e2 e3
    refine ⟨u',r',?_⟩
    rcases q with ⟨k,e⟩ | ⟨k,c,e,z⟩
    ·refine .inl ⟨k,?_⟩
     have:y≠x:=fun e=>hj (Zbg hN e1 (e ▸ hi))
     simp [this,e]
    ·exact .inr ⟨k,c,e,z.sameBut hs (cne y c e)⟩
  ·obtain ⟨w',z⟩:=I.cell y c e
   exact ⟨w',z.sameBut hs (cne y c e)⟩
  ·obtain ⟨e,n,ne,nf,d⟩:=I.pin p hp
   exact ⟨(hs.2 p.1 ne).trans e,n,ne,nf,d⟩
 ·have hfn:X.fn x=true:=by
   rcases hf with z | z
   ·exact z
   ·rw [z] at hk; cases hk
  obtain ⟨c,hc⟩:=I.ok.has x (.inl hk)
  obtain ⟨w',z⟩:=I.cell x c hc
  refine wpAny_storeName_cell I.ok.kind hk hc z (fun h' hc' hs=>?_)
  obtain ⟨oc,hoc,hocd⟩:=id z
  refine h { s with heap:=h' } ⟨I.ok,I.os,I.bare,⟨fun b o e n hb hx=>?_,fun b o e n hb hx=>?_,I.base.free,fun b o e hx=>?_,I.base.tups,I.base.frzs,I.base.tbls⟩,⟨m,hn.sameBut hs (Ne.symm (cne x c hc)),fun j y v' e1 e2 e3=>?_⟩,fun y c' e=>?_,I.free,I.freeC,fun p hp=>?_,tracked ⟨oc,hoc,I.freeC x c hc⟩ hs,by simpa using I.len,I.hh⟩ ⟨c,hs,.inr hc⟩
  ·exact (hs.2 b (Nat.ne_of_lt (Nat.lt_of_lt_of_le (Heap.lt_size e) (I.ok.cab x c hfn hc)))).trans (I.base.keep b o e n hb hx)
  ·obtain ⟨sl,e1⟩:=I.base.slot b o e n hb hx
   exact ⟨sl,(hs.2 b (Nat.ne_of_lt (Nat.lt_of_lt_of_le (Heap.lt_size e) (I.ok.cab x c hfn hc)))).trans e1⟩
  ·obtain ⟨o',e1⟩:=I.base.there b o e hx
   exact ⟨o',(hs.2 b (Nat.ne_of_lt (Nat.lt_of_lt_of_le (Heap.lt_size e) (I.ok.cab x c hfn hc)))).trans e1⟩
  ·by_cases hj:j=i
   ·subst hj
    rw [hi] at e1; cases e1
    rw [List.getElem?_set_self hiσ] at e2
    cases e2
    exact ⟨u,r,.inr ⟨.inl hk,c,hc,hc'⟩⟩
   ·rw [List.getElem?_set_ne (Ne.symm hj)] at e2
    obtain ⟨u',r',q⟩:=hl j y v' e1 e2 e3
    refine ⟨u',r',?_⟩
    rcases q with q | ⟨k,c',e,z'⟩
    ·exact .inl q
    ·refine .inr ⟨k,c',e,z'.sameBut hs ?_⟩
     rintro rfl
     exact hj (Zbg hN e1 (I.ok.inj _ _ _ e hc ▸ hi))
  ·by_cases hcc:c'=c
   ·subst hcc; exact ⟨_,hc'⟩
   ·obtain ⟨w2,z2⟩:=I.cell y c' e
    exact ⟨w2,z2.sameBut hs hcc⟩
  ·obtain ⟨e,n,ne,nf,d⟩:=I.pin p hp
   refine ⟨(hs.2 p.1 ?_).trans e,n,ne,nf,d⟩
   intro q
   rw [q,hoc] at e
   have q':oc=p.2:=Option.some.inj e
   exact d w' (by rw [← q']; exact hocd)
theorem Vbe {M:Model} {A:Around} {E:Value→Shared→Prop} {i:Nat} {x:Str} {v:V} {u:Value} {Q:Unit→Shared→Prop} (I:Inv X pins σ H s) (hN:X.N.Nodup) (hi:X.N[i]? = some x) (hx:Loc X.env.scope x) (r:RelV v u)
  (h:∀ s',Inv X pins (σ.set i (some v)) H s'→Q () s') (hf:X.fn x=true∨X.env.scope.names.lookup x=some .local:=by first | exact .inl rfl | exact .inr rfl | assumption):wpAny M A (storeName X.env x u) Q E s :=
 Vat I hN hi hx r (fun s' I' _=>h s' I') hf
theorem Inv.call' {s':Shared} {ch:List Addr} (I:Inv X pins σ H s) (ho:s'.os=s.os) (u:Un (frs X.stack) ch H H' s.heap s'.heap) (hok:HOk X.prog X.w H' s'.heap) (hg:AllBare s'.gens)
  (hch:∀ b∈ch,(b∈X.ex∨X.s₀.heap.objs.size≤b)∧b≠X.env.locals∧(∀ x c,X.env.cells.lookup x=some c→c≠b)∧∀ p∈X.pn ++ pins,p.1≠b):Inv X pins σ H' s':=by
 obtain ⟨h',g',d',t',o'⟩:=s'
 have e:o'=s.os:=ho
 subst e
 exact I.call (g':=g') (t':=t') (d':=d') u hok hg hch
end
noncomputable abbrev XK:=Value→Option Addr→Hp→Prop
noncomputable abbrev St:=List (Option V)
noncomputable abbrev VK:=V→Hp→Prop
noncomputable abbrev TE:=St→Hp→VK→Prop
noncomputable abbrev TT:=St→Hp→(Bool→Hp→Prop)→Prop
noncomputable abbrev TA:=St→Hp→(List V→Hp→Prop)→Prop
structure Ends where
 nx:St→Hp→Prop
 rt:VK
 bk:St→Hp→Prop:=fun _ _=>False
 ct:St→Hp→Prop:=fun _ _=>False
noncomputable abbrev TS:=Ends→St→Hp→Prop
noncomputable def EP (X:Cx) (pins:List (Addr×Obj)) (σ:St) (Q:VK) (u:Value) (s':Shared):Prop:=∃ v H',Inv X pins σ H' s'∧RelV v u∧Q v H'
noncomputable def TP (X:Cx) (pins:List (Addr×Obj)) (σ:St) (Q:Bool→Hp→Prop) (b:Bool) (s':Shared):Prop:=∃ H',Inv X pins σ H' s'∧Q b H'
noncomputable def AP (X:Cx) (pins:List (Addr×Obj)) (σ:St) (Q:List V→Hp→Prop) (us:List Value) (s':Shared):Prop:=∃ vs H',Inv X pins σ H' s'∧Vals vs us∧Q vs H'
noncomputable def SP (X:Cx) (pins:List (Addr×Obj)) (D:Ends) (f:Flow) (s':Shared):Prop :=
 match f with
 | .next=>∃ σ' H',Inv X pins σ' H' s'∧D.nx σ' H'
 | .brk=>∃ σ' H',Inv X pins σ' H' s'∧D.bk σ' H'
 | .cont=>∃ σ' H',Inv X pins σ' H' s'∧D.ct σ' H'
 | .ret u=>∃ v σ' H',Inv X pins σ' H' s'∧RelV v u∧D.rt v H'
noncomputable def PE (X:Cx) (e:Expr) (t:TE):Prop :=
 ∀ (pins:List (Addr×Obj)) (s:Shared) (σ:St) (H:Hp) (Q:VK),Inv X pins σ H s→t σ H Q→wpAny (model X.prog X.w) X.A (eval e X.env) (EP X pins σ Q) X.xe s
noncomputable def PT (X:Cx) (e:Expr) (t:TT):Prop :=
 ∀ (pins:List (Addr×Obj)) (s:Shared) (σ:St) (H:Hp) (Q:Bool→Hp→Prop),Inv X pins σ H s→t σ H Q→wpAny (model X.prog X.w) X.A (isTrue e X.env (eval e X.env)) (TP X pins σ Q) X.xe s
noncomputable def PW (X:Cx) (e:Expr) (t:TT):Prop :=
 ∀ (whole:Sem Value) (pins:List (Addr×Obj)) (s:Shared) (σ:St) (H:Hp) (Q:Bool→Hp→Prop),Inv X pins σ H s→t σ H Q→wpAny (model X.prog X.w) X.A (isTrue e X.env whole) (TP X pins σ Q) X.xe s
theorem PW.pt {X:Cx} {e:Expr} {t:TT} (h:PW X e t):PT X e t:=h _
noncomputable def PA (X:Cx) (es:List Expr) (t:TA):Prop :=
 ∀ (pos:Pos) (pins:List (Addr×Obj)) (s:Shared) (σ:St) (H:Hp) (Q:List V→Hp→Prop),Inv X pins σ H s→t σ H Q→wpAny (model X.prog X.w) X.A (spliced (backTo pos (starEach es X.env))) (AP X pins σ Q) X.xe s
noncomputable def PS (X:Cx) (st:Stmt) (t:TS):Prop :=
 ∀ (pins:List (Addr×Obj)) (s:Shared) (σ:St) (H:Hp) (D:Ends),Inv X pins σ H s→t D σ H→wpAny (model X.prog X.w) X.A (exec st X.env) (SP X pins D) X.xe s
noncomputable def PSs (X:Cx) (st:List Stmt) (t:TS):Prop :=
 ∀ (pins:List (Addr×Obj)) (s:Shared) (σ:St) (H:Hp) (D:Ends),Inv X pins σ H s→t D σ H→wpAny (model X.prog X.w) X.A (execs st X.env) (SP X pins D) X.xe s
theorem thn {α:Type} {t:Sem α} {Q Q':α→Shared→Prop} {M:Model} {A:Around} {E:Value→Shared→Prop} {s:Shared} (h:wpAny M A t Q E s) (hQ:∀ a s,Q a s→Q' a s):wpAny M A t Q' E s:=wpAny_mono h hQ fun _ _ x=>x
end L2
namespace L2
open PySem PySem.Spec PyProof.Rows
section
variable {X:Cx}
theorem bin {a b:Expr} {ta tb:TE} (ha:PE X a ta) (hb:PE X b tb) {pins:List (Addr×Obj)} {s:Shared} {σ:St} {H:Hp} {R:V→V→Hp→Prop} (I:Inv X pins σ H s) (h:ta σ H fun x H1=>tb σ H1 fun y H2=>R x y H2)
  {α:Type} {Q:α→Shared→Prop} {f:Value→Value→Sem α}
  (hf:∀ v u s2 x y H2,Inv X pins σ H2 s2→RelV x v→RelV y u→R x y H2→wpAny (model X.prog X.w) X.A (f v u) Q X.xe s2) :
  wpAny (model X.prog X.w) X.A (eval a X.env) (fun v s₁=>wpAny (model X.prog X.w) X.A (eval b X.env) (fun u s₂=>wpAny (model X.prog X.w) X.A (f v u) Q X.xe s₂) X.xe s₁) X.xe s:=by
 refine thn (ha pins s σ H _ I h) fun v s1 ⟨x,H1,I1,r1,q1⟩=>?_
 refine thn (hb pins s1 σ H1 _ I1 q1) fun u s2 ⟨y,H2,I2,r2,q2⟩=>?_
 exact hf v u s2 x y H2 I2 r1 r2 q2
noncomputable def tVar (i:Nat):TE:=fun σ H Q=>∃ v,σ[i]? = some (some v)∧Q v H
noncomputable def tC (v:V):TE:=fun _ H Q=>Q v H
theorem pe_var {i:Nat} {x:Str} {pos:Pos} (hN:X.N[i]? = some x) (hv:Vis X.env.scope x) (hd:(x == ("__debug__" : Str))=false:=by decide) (hcd:(x == ("__classdict__" : Str))=false:=by decide):PE X (.Name x pos) (tVar i):=by
 intro pins s σ H Q I h
 obtain ⟨v,e,h⟩:=h
 obtain ⟨m,hn,hl⟩:=I.loc
 obtain ⟨u,r,l⟩:=hl i x v hN e hv
 have fin:EP X pins σ Q u s:=⟨v,H,I,r,h⟩
 rcases l with ⟨hk,hm⟩ | ⟨hk,c,hc,hcell⟩
 ·exact wpAny_Name (wpAny_loadName_local I.ok.kind hk hn hm fin) hd
 ·rcases hk with hk | hk
  ·exact wpAny_Name (wpAny_loadName_cell I.ok.kind hk hc hcell fin) hd
  ·exact wpAny_Name (wpAny_loadName_free I.ok.kind hk hc hcell fin hcd) hd
theorem pe_int {i j pos}:PE X (.Constant (.int i) j pos) (tC (.int i)):=fun _ _ _ H _ I h=>wpAny_Constant_int ⟨.int i,H,I.tok _,⟨_,rfl⟩,h⟩
theorem pe_bl {b j pos}:PE X (.Constant (.bool b) j pos) (tC (.bl b)):=fun _ _ _ H _ I h=>Constant_bool ⟨.bl b,H,I,rfl,h⟩
theorem pe_non {j pos}:PE X (.Constant .none j pos) (tC .non):=fun _ _ _ H _ I h=>Constant_none ⟨.non,H,I,rfl,h⟩
theorem pe_str {x j pos}:PE X (.Constant (.str x) j pos) (tC (.str x)):=fun _ _ _ H _ I h=>Calls.Constant_str ⟨.str x,H,I.tok _,⟨_,rfl⟩,h⟩
noncomputable def Gl (X:Cx) (x:Str):Prop:=X.env.kindOf x=some .globalImplicit
theorem ld_glob {E:Value→Shared→Prop} {pins:List (Addr×Obj)} {s:Shared} {σ:St} {H:Hp} {x:Str} {u:Value} {pos:Pos} {Q:Value→Shared→Prop} (I:Inv X pins σ H s) (hg:Gl X x) (hm:X.mg x=some u) (h:Q u s)
  (hd:(x == ("__debug__" : Str))=false:=by decide):wpAny (model X.prog X.w) X.A (eval (.Name x pos) X.env) Q E s :=
 Calls.Name_function_global I.ok.kind hg (Calls.loadGlobal_global (by rw [I.ok.glob]; exact I.mod.glob.keeps I.bk) hm h) hd
theorem Wr {E:Value→Shared→Prop} {pins:List (Addr×Obj)} {s:Shared} {σ:St} {H:Hp} {x:Str} {u:Value} {pos:Pos} {Q:Value→Shared→Prop} (I:Inv X pins σ H s) (hg:Gl X x) (hm:X.mg x=none) (hv:bootBuiltins x=some u) (h:Q u s)
  (hn:x≠"__name__":=by decide) (hd:(x == ("__debug__" : Str))=false:=by decide):wpAny (model X.prog X.w) X.A (eval (.Name x pos) X.env) Q E s:=by
 obtain ⟨mb,h1,h2⟩:=I.mod.blt
 exact Calls.Name_function_global I.ok.kind hg (Calls.loadGlobal_builtin (by rw [I.ok.glob]; exact I.mod.glob.keeps I.bk) hm (by rw [I.ok.blt]; exact h1.keeps I.bk) ((h2 x hn).trans hv) h) hd
theorem pe_bltn {x:Str} {v:V} {u:Value} {pos:Pos} (hg:Gl X x) (hm:X.mg x=none) (hv:bootBuiltins x=some u) (r:RelV v u) (hn:x≠"__name__":=by decide) (hd:(x == ("__debug__" : Str))=false:=by decide):PE X (.Name x pos) (tC v) :=
 fun _ _ _ H _ I h=>Wr I hg hm hv ⟨v,H,I,r,h⟩ hn hd
variable {a b:Expr} {ta tb:TE} {pos:Pos}
variable {tA tB':TT} {rest:List Expr}
noncomputable def tAnd (t u:TT):TT:=fun σ H Q=>t σ H fun c H1=>if c=true then u σ H1 Q else Q false H1
noncomputable def tOr (t u:TT):TT:=fun σ H Q=>t σ H fun c H1=>if c=true then Q true H1 else u σ H1 Q
noncomputable def tNot (t:TT):TT:=fun σ H Q=>t σ H fun c H1=>Q (!c) H1
theorem pw_and1 (ha:PT X a tA):PW X (.BoolOp .And [a] pos) tA:=by
 intro wh pins s σ H Q I h
 refine isTrue_and (thn (ha pins s σ H Q I h) fun c s1 e=>?_)
 cases c with
 | true=>exact isTrue_and_nil e
 | false=>exact e
theorem pw_or1 (ha:PT X a tA):PW X (.BoolOp .Or [a] pos) tA:=by
 intro wh pins s σ H Q I h
 refine isTrue_or (thn (ha pins s σ H Q I h) fun c s1 e=>?_)
 cases c with
 | false=>exact isTrue_or_nil e
 | true=>exact e
theorem pw_and (ha:PT X a tA) (hb:PW X (.BoolOp .And (b :: rest) pos) tB'):PW X (.BoolOp .And (a :: b :: rest) pos) (tAnd tA tB'):=by
 intro wh pins s σ H Q I h
 refine isTrue_and (thn (ha pins s σ H _ I h) fun c s1 ⟨H1,I1,q1⟩=>?_)
 cases c with
 | true=>exact hb wh pins s1 σ H1 Q I1 q1
 | false=>exact ⟨H1,I1,q1⟩
theorem pw_or (ha:PT X a tA) (hb:PW X (.BoolOp .Or (b :: rest) pos) tB'):PW X (.BoolOp .Or (a :: b :: rest) pos) (tOr tA tB'):=by
 intro wh pins s σ H Q I h
 refine isTrue_or (thn (ha pins s σ H _ I h) fun c s1 ⟨H1,I1,q1⟩=>?_)
 cases c with
 | true=>exact ⟨H1,I1,q1⟩
 | false=>exact hb wh pins s1 σ H1 Q I1 q1
theorem pt_not (ha:PT X a tA):PT X (.UnaryOp .Not a pos) (tNot tA):=by
 intro pins s σ H Q I h
 exact isTrue_not (ha pins s σ H (fun c H1=>Q (!c) H1) I h)
noncomputable def tAndV (ta tb:TE):TE:=fun σ H Q=>ta σ H fun x H1=>∃ c,x = .bl c∧if c=true then tb σ H1 Q else Q (.bl false) H1
noncomputable def tOrV (ta tb:TE):TE:=fun σ H Q=>ta σ H fun x H1=>∃ c,x = .bl c∧if c=true then Q (.bl true) H1 else tb σ H1 Q
noncomputable def tNotV (ta:TE):TE:=fun σ H Q=>ta σ H fun x H1=>∃ c,x = .bl c∧Q (.bl (!c)) H1
theorem pe_one {op} {t:TE} (h:PE X a t):PE X (.BoolOp op [a] pos) t:=fun pins s σ H Q I hw=>BoolOp_one (h pins s σ H Q I hw)
theorem pe_and (ha:PE X a ta) (hb:PE X (.BoolOp .And (b :: rest) pos) tb):PE X (.BoolOp .And (a :: b :: rest) pos) (tAndV ta tb):=by
 intro pins s σ H Q I h
 refine BoolOp_and (thn (ha pins s σ H _ I h) fun v s1 ⟨x,H1,I1,r1,q1⟩=>?_)
 obtain ⟨c,rfl,q1⟩:=q1
 cases r1
 refine wpAny_truthy_bool ?_
 cases c with
 | true=>exact hb pins s1 σ H1 Q I1 q1
 | false=>exact ⟨.bl false,H1,I1,rfl,q1⟩
theorem pe_or (ha:PE X a ta) (hb:PE X (.BoolOp .Or (b :: rest) pos) tb):PE X (.BoolOp .Or (a :: b :: rest) pos) (tOrV ta tb):=by
 intro pins s σ H Q I h
 refine BoolOp_or (thn (ha pins s σ H _ I h) fun v s1 ⟨x,H1,I1,r1,q1⟩=>?_)
 obtain ⟨c,rfl,q1⟩:=q1
 cases r1
 refine wpAny_truthy_bool ?_
 cases c with
 | false=>exact hb pins s1 σ H1 Q I1 q1
 | true=>exact ⟨.bl true,H1,I1,rfl,q1⟩
theorem pe_not (ha:PE X a ta):PE X (.UnaryOp .Not a pos) (tNotV ta):=by
 intro pins s σ H Q I h
 refine UnaryOp_ (thn (ha pins s σ H _ I h) fun v s1 ⟨x,H1,I1,r1,q1⟩=>?_)
 obtain ⟨c,rfl,q1⟩:=q1
 cases r1
 exact not_of (wpAny_truthy_bool ⟨.bl (!c),H1,I1,rfl,q1⟩)
end
end L2
namespace L2
open PySem PySem.Spec PyProof.Rows
noncomputable def SqL (K:PySem.W.Frag) (H:Hp) (a:Addr) (xs:List V):Prop :=
 Rd H a (.lst xs) ∨
  ∃ (o:Obj) (its:Array Value) (n:Nat),K.lookup a=some o∧o.cls = .type "list"∧o.dict=none∧o.data = .seq its n∧its.size≤sizeLine∧Vals xs its.toList
noncomputable def SqT (K:PySem.W.Frag) (H:Hp) (a:Addr) (xs:List V):Prop :=
 Rd H a (.tup xs) ∨
  ∃ (o:Obj) (its:Array Value) (n:Nat),K.lookup a=some o∧o.cls = .type "tuple"∧o.data = .seq its n∧its.size≤sizeLine∧Vals xs its.toList
noncomputable def absV:Value→Option V
 | .none=>some .non
 | .bool b=>some (.bl b)
 | .int i _=>some (.int i)
 | .str x _=>some (.str x)
 | .bytes b _=>some (.byt b)
 | .float b _=>some (.flt b)
 | .ref a=>some (.ref a)
 | .type n=>some (.ty n)
 | _=>none
theorem RelV.abs {x:V} {u:Value} (r:RelV x u):absV u=some x:=by
 cases x with
 | non=>cases r; rfl
 | bl _=>cases r; rfl
 | int _=>obtain ⟨t,rfl⟩:=r; rfl
 | str _=>obtain ⟨t,rfl⟩:=r; rfl
 | byt _=>obtain ⟨t,rfl⟩:=r; rfl
 | flt _=>obtain ⟨t,rfl⟩:=r; rfl
 | ref _=>cases r; rfl
 | ty _=>cases r; rfl
theorem RelV.inj {x y:V} {u:Value} (r:RelV x u) (q:RelV y u):x=y:=Option.some.inj (r.abs.symm.trans q.abs)
theorem Vals.inj:∀ {xs ys:List V} {us:List Value},Vals xs us→Vals ys us→xs=ys
 | _,_,_,.nil,.nil=>rfl
 | _,_,_,.cons r t,.cons r' t'=>by rw [r.inj r',Vals.inj t t']
section
variable {X:Cx} {pins:List (Addr×Obj)} {σ:St} {H:Hp} {s:Shared} {a:Addr} {xs ys:List V}
theorem SqL.of {K:PySem.W.Frag} (h:H a=some (.lst xs)):SqL K H a xs:=.inl (.inl h)
theorem SqT.of {K:PySem.W.Frag} (h:H a=some (.tup xs)):SqT K H a xs:=.inl (.inl h)
theorem Inv.list (I:Inv X pins σ H s) (h:SqL X.K H a xs):∃ its:List Value,Vals xs its∧PlainL s.heap a its.toArray∧xs.length≤sizeLine:=by
 rcases h with h | ⟨o,its,n,hk,hc,hd,hs,hz,r⟩
 ·obtain ⟨z,its,n,r,e⟩:=h.ok I.hok
  exact ⟨its,r,⟨_,n,e,rfl,rfl,rfl⟩,z⟩
 ·refine ⟨its.toList,r,⟨o,n,I.kIn a o hk,hc,hd,by simpa using hs⟩,?_⟩
  have e:=r.length
  simp only [Array.length_toList] at e
  omega
theorem Inv.tuple (I:Inv X pins σ H s) (h:SqT X.K H a xs):∃ its:List Value,Vals xs its∧IsTup s.heap a its.toArray∧xs.length≤sizeLine:=by
 rcases h with h | ⟨o,its,n,hk,hc,hs,hz,r⟩
 ·obtain ⟨z,its,r,p⟩:=h.ok I.hok
  exact ⟨its,r,p.is,z⟩
 ·refine ⟨its.toList,r,⟨o,I.kIn a o hk,hc,n,by simpa using hs⟩,?_⟩
  have e:=r.length
  simp only [Array.length_toList] at e
  omega
theorem Inv.list_inj (I:Inv X pins σ H s) (h:SqL X.K H a xs) (h':SqL X.K H a ys):xs=ys:=by
 obtain ⟨its,r,⟨o,n,e,_,_,d⟩,_⟩:=I.list h
 obtain ⟨its',r',⟨o',n',e',_,_,d'⟩,_⟩:=I.list h'
 rw [e] at e'; cases e'
 rw [d] at d'
 injection d' with d1 _
 have:its=its':=by simpa using congrArg Array.toList d1
 subst this
 exact r.inj r'
theorem Inv.tuple_inj (I:Inv X pins σ H s) (h:SqT X.K H a xs) (h':SqT X.K H a ys):xs=ys:=by
 obtain ⟨its,r,⟨o,e,_,n,d⟩,_⟩:=I.tuple h
 obtain ⟨its',r',⟨o',e',_,n',d'⟩,_⟩:=I.tuple h'
 rw [e] at e'; cases e'
 rw [d] at d'
 injection d' with d1 _
 have:its=its':=by simpa using congrArg Array.toList d1
 subst this
 exact r.inj r'
end
noncomputable abbrev Cx.wish (X:Cx) (E:Value→Shared→Prop):Cx:={ X with xe:=E }
noncomputable abbrev Cx.nox (X:Cx):Cx:=X.wish fun _ _=>False
theorem Cx.Ok.wish {X:Cx} (ok:X.Ok) (E:Value→Shared→Prop):(X.wish E).Ok :=
 ⟨ok.mod,ok.kind,ok.glob,ok.blt,ok.above,ok.inj,ok.has,ok.cab,ok.hd,ok.frames,ok.stk,ok.exf,ok.bs,ok.bsz,ok.noex,ok.exfs,ok.funs,ok.frf⟩
theorem Cx.Ok.unwish {X:Cx} {E:Value→Shared→Prop} (ok:(X.wish E).Ok):X.Ok :=
 ⟨ok.mod,ok.kind,ok.glob,ok.blt,ok.above,ok.inj,ok.has,ok.cab,ok.hd,ok.frames,ok.stk,ok.exf,ok.bs,ok.bsz,ok.noex,ok.exfs,ok.funs,ok.frf⟩
section
variable {X:Cx} {pins:List (Addr×Obj)} {σ:St} {H:Hp} {s:Shared} {E:Value→Shared→Prop}
theorem Inv.wish (I:Inv X pins σ H s) (E:Value→Shared→Prop):Inv (X.wish E) pins σ H s:=⟨I.ok.wish E,I.os,I.bare,I.base,I.loc,I.cell,I.free,I.freeC,I.pin,I.hok,I.len,I.hh⟩
theorem Inv.unwish (I:Inv (X.wish E) pins σ H s):Inv X pins σ H s:=⟨I.ok.unwish,I.os,I.bare,I.base,I.loc,I.cell,I.free,I.freeC,I.pin,I.hok,I.len,I.hh⟩
theorem SP.unwish {D:Ends} {f:Flow} {s':Shared} (h:SP (X.wish E) pins D f s'):SP X pins D f s':=by
 cases f with
 | next=>obtain ⟨σ',H',I,q⟩:=h; exact ⟨σ',H',I.unwish,q⟩
 | brk=>obtain ⟨σ',H',I,q⟩:=h; exact ⟨σ',H',I.unwish,q⟩
 | cont=>obtain ⟨σ',H',I,q⟩:=h; exact ⟨σ',H',I.unwish,q⟩
 | ret u=>obtain ⟨v,σ',H',I,r,q⟩:=h; exact ⟨v,σ',H',I.unwish,r,q⟩
theorem PE.nox {e:Expr} {t:TE} (h:PE X.nox e t):PE X e t:=fun pins s σ H Q I hw =>
 wpAny_mono (h pins s σ H Q (I.wish _) hw) (fun _ _ ⟨v,H',I',r,q⟩=>⟨v,H',I'.unwish,r,q⟩) fun _ _ z=>False.elim z
theorem PT.nox {e:Expr} {t:TT} (h:PT X.nox e t):PT X e t:=fun pins s σ H Q I hw =>
 wpAny_mono (h pins s σ H Q (I.wish _) hw) (fun _ _ ⟨H',I',q⟩=>⟨H',I'.unwish,q⟩) fun _ _ z=>False.elim z
theorem PSs.nox {st:List Stmt} {t:TS} (h:PSs X.nox st t):PSs X st t:=fun pins s σ H D I hw =>
 wpAny_mono (h pins s σ H D (I.wish _) hw) (fun _ _ q=>q.unwish) fun _ _ z=>False.elim z
end
section
variable {X:Cx} {st:Stmt} {rest:List Stmt} {t u:TS} {e:Expr} {te:TE} {pos:Pos}
noncomputable def tNext:TS:=fun D σ H=>D.nx σ H
noncomputable def tSeq (t u:TS):TS:=fun D σ H=>t { D with nx:=u D } σ H
theorem pss_nil:PSs X [] tNext:=fun _ _ σ H _ I h=>wpAny_execs_nil ⟨σ,H,I,h⟩
theorem pss_cons (h1:PS X st t) (h2:PSs X rest u):PSs X (st :: rest) (tSeq t u):=by
 intro pins s σ H D I h
 refine wpAny_execs_cons (thn (h1 pins s σ H { D with nx:=u D } I h) fun f s1 q=>?_)
 cases f with
 | next =>
  obtain ⟨σ',H',I',q⟩:=q
  exact h2 pins s1 σ' H' D I' q
 | ret v=>exact q
 | brk=>exact q
 | cont=>exact q
noncomputable def tBreak:TS:=fun D σ H=>D.bk σ H
theorem ps_break:PS X (.Break pos) tBreak:=fun _ _ σ H _ I h=>wpAny_Break ⟨σ,H,I,h⟩
theorem Inv.quiet {pins:List (Addr×Obj)} {σ:St} {H:Hp} {s:Shared} (I:Inv X pins σ H s):interactive X.env=false:=by simp [interactive,I.ok.kind]
noncomputable def tDrop (te:TE):TS:=fun D σ H=>te σ H fun _ H1=>D.nx σ H1
theorem ps_expr (he:PE X e te) (hs:swapsWith e none pos.line X.env=pure false:=by rfl):PS X (.Expr e pos) (tDrop te):=by
 intro pins s σ H D I h
 exact wpAny_Expr_any (thn (he pins s σ H _ I h) fun v s1 ⟨x,H1,I1,r1,q1⟩=>⟨σ,H1,I1,q1⟩) I.quiet hs
noncomputable def tRet (te:TE):TS:=fun D σ H=>te σ H D.rt
theorem ps_ret (he:PE X e te):PS X (.Return (some e) pos) (tRet te):=by
 intro pins s σ H D I h
 exact wpAny_Return_some (thn (he pins s σ H _ I h) fun v s1 ⟨x,H1,I1,r1,q1⟩=>⟨x,σ,H1,I1,r1,q1⟩)
noncomputable def tIfS (c:TT) (t u:TS):TS:=fun D σ H=>c σ H fun b H1=>if b=true then t D σ H1 else u D σ H1
theorem ps_if {c:Expr} {a b:List Stmt} {tc:TT} (hc:PT X c tc) (ha:PSs X a t) (hb:PSs X b u):PS X (.If c a b pos) (tIfS tc t u):=by
 intro pins s σ H D I h
 refine wpAny_If (thn (hc pins s σ H _ I h) fun d s1 ⟨H1,I1,q1⟩=>?_)
 cases d with
 | true=>exact ha pins s1 σ H1 D I1 q1
 | false=>exact hb pins s1 σ H1 D I1 q1
end
noncomputable abbrev TG:=V→St→Hp→(St→Hp→Prop)→Prop
noncomputable abbrev TGs:=List V→St→Hp→(St→Hp→Prop)→Prop
noncomputable def PG (X:Cx) (target:Expr) (t:TG):Prop :=
 ∀ (pins:List (Addr×Obj)) (s:Shared) (σ:St) (H:Hp) (v:V) (u:Value) (Q:St→Hp→Prop),Inv X pins σ H s→RelV v u→t v σ H Q →
  wpAny (model X.prog X.w) X.A (assign target X.env u) (fun _ s'=>∃ σ' H',Inv X pins σ' H' s'∧Q σ' H') X.xe s
noncomputable def PGs (X:Cx) (ts:List Expr) (t:TGs):Prop :=
 ∀ (pins:List (Addr×Obj)) (s:Shared) (σ:St) (H:Hp) (vs:List V) (us:List Value) (Q:St→Hp→Prop),Inv X pins σ H s→Vals vs us→t vs σ H Q →
  wpAny (model X.prog X.w) X.A (assignInOrder ((assignEach ts X.env).map (·.2)) us) (fun _ s'=>∃ σ' H',Inv X pins σ' H' s'∧Q σ' H') X.xe s
noncomputable abbrev TSet:=V→V→V→Hp→(Hp→Prop)→Prop
noncomputable def PSet (X:Cx) (t:TSet):Prop :=
 ∀ (pins:List (Addr×Obj)) (s:Shared) (σ:St) (H:Hp) (o i v:V) (ov iv u:Value) (Q:Hp→Prop),Inv X pins σ H s→RelV o ov→RelV i iv→RelV v u→t o i v H Q →
  wpAny (model X.prog X.w) X.A (setItem ov iv u) (fun _ s'=>∃ H',Inv X pins σ H' s'∧Q H') X.xe s
noncomputable abbrev TIp:=V→V→Hp→VK→Prop
noncomputable def PIp (X:Cx) (op:Operator) (t:TIp):Prop :=
 ∀ (pins:List (Addr×Obj)) (s:Shared) (σ:St) (H:Hp) (x y:V) (v u:Value) (Q:VK),Inv X pins σ H s→RelV x v→RelV y u→t x y H Q →
  wpAny (model X.prog X.w) X.A (inplaceOp op v u) (EP X pins σ Q) X.xe s
section
variable {X:Cx} {pos:Pos}
noncomputable def gName (i:Nat):TG:=fun v σ H Q=>Q (σ.set i (some v)) H
theorem pg_name {i:Nat} {x:Str} (hN:X.N.Nodup) (hi:X.N[i]? = some x) (hx:Loc X.env.scope x) (hf:X.fn x=true∨X.env.scope.names.lookup x=some .local:=by first | exact .inl rfl | exact .inr rfl | assumption):PG X (.Name x pos) (gName i):=by
 intro pins s σ H v u Q I r h
 exact wpAny_assign_Name (Vbe I hN hi hx r (fun s' I'=>⟨_,H,I',h⟩) hf)
noncomputable def gNil:TGs:=fun vs σ H Q=>vs=[]∧Q σ H
noncomputable def gCons (t:TG) (u:TGs):TGs:=fun vs σ H Q=>∃ v r,vs=v :: r∧t v σ H fun σ' H'=>u r σ' H' Q
theorem pgs_nil:PGs X [] gNil:=by
 intro pins s σ H vs us Q I r h
 obtain ⟨e,h⟩:=h
 subst e
 cases r
 exact assignInOrder_nil ⟨σ,H,I,h⟩
theorem pgs_cons {e:Expr} {es:List Expr} {t:TG} {u:TGs} (h1:PG X e t) (h2:PGs X es u)
  (hs:(assignEach (e :: es) X.env).map (·.2)=assign e X.env :: (assignEach es X.env).map (·.2):=by rfl):PGs X (e :: es) (gCons t u):=by
 intro pins s σ H vs us Q I r h
 obtain ⟨v,vr,e1,h⟩:=h
 subst e1
 cases r with
 | cons r rr =>
  rw [hs]
  refine assignInOrder_cons (thn (h1 pins s σ H _ _ _ I r h) fun _ s1 ⟨σ1,H1,I1,q1⟩=>?_)
  exact h2 pins s1 σ1 H1 _ _ Q I1 rr q1
noncomputable def gTup (K:PySem.W.Frag) (n:Nat) (t:TGs):TG:=fun v σ H Q=>∃ a xs,v = .ref a∧SqT K H a xs∧xs.length=n∧t xs σ H Q
theorem pg_tup {es:List Expr} {k:Nat} {t:TGs} {n:Nat} (hc:X.calm=true) (h:PGs X es t)
  (hn:(assignEach es X.env).length=n:=by rfl) (hst:(assignEach es X.env).findIdx? (·.1)=none:=by rfl):PG X (.Tuple es k pos) (gTup X.K n t):=by
 intro pins s σ H v u Q I r hw
 obtain ⟨a,xs,e1,hq,hl,hw⟩:=hw
 subst e1
 cases r
 obtain ⟨its,rv,ht,hz⟩:=I.tuple hq
 refine assign_Tuple_tuple (I.ok.hd hc) ht (by simp [hn,← hl,rv.length]) hst fun h' hx=>?_
 have I1:Inv X pins σ H { s with heap:=h' }:=I.kept (t':=s.toks) fun b o e=>hx b o (Nat.ne_of_lt (Heap.lt_size e)) e
 exact h pins _ σ H xs _ Q I1 (by simpa using rv) hw
noncomputable def gSub (to ti:TE) (t:TSet):TG:=fun v σ H Q=>to σ H fun o H1=>ti σ H1 fun i H2=>t o i v H2 fun H3=>Q σ H3
theorem pg_sub {o i:Expr} {to ti:TE} {t:TSet} (ho:PE X o to) (hi:PE X i ti) (hs:PSet X t)
  (ha:∀ v,assign (.Subscript o i pos) X.env v=(do
   let ov ← holding [v] (eval o X.env)
   let iv ← holding [v,ov] (eval i X.env)
   standAt pos
   holding [v,ov,iv] (setItem ov iv v)
   release [v,ov,iv] []):=by intro _; rfl):PG X (.Subscript o i pos) (gSub to ti t):=by
 intro pins s σ H v u Q I r h
 rw [ha]
 refine wpAny_bind (wpAny_holding (thn (ho pins s σ H _ I h) fun ov s1 ⟨x,H1,I1,r1,q1⟩=>?_))
 refine wpAny_bind (wpAny_holding (thn (hi pins s1 σ H1 _ I1 q1) fun iv s2 ⟨y,H2,I2,r2,q2⟩=>?_))
 refine wpAny_bind (wpAny_standAt (wpAny_bind (wpAny_holding (thn (hs pins s2 σ H2 x y v ov iv u _ I2 r1 r2 r q2) fun _ s3 ⟨H3,I3,q3⟩=>?_))))
 exact wpAny_release ⟨σ,H3,I3,q3⟩
noncomputable def tAsg (te:TE) (g:TG):TS:=fun D σ H=>te σ H fun x H1=>g x σ H1 D.nx
theorem ps_asg {tg e:Expr} {te:TE} {g:TG} (he:PE X e te) (hg:PG X tg g) (hs:swapsWithSole [tg] e pos.line X.env=pure false:=by rfl) (hw:swappedStores [tg] e X.env=pure none:=by rfl)
  (h1:(assignEach [tg] X.env).map (·.2)=[assign tg X.env]:=by rfl):PS X (.Assign [tg] e pos) (tAsg te g):=by
 intro pins s σ H D I h
 refine wpAny_Assign_stores (thn (he pins s σ H _ I h) fun v s1 ⟨x,H1,I1,r1,q1⟩=>?_) hs hw
 rw [h1]
 exact thn (hg pins s1 σ H1 x v _ I1 r1 q1) fun _ s2 q=>q
theorem ps_set {i:Nat} {x:Str} {e:Expr} {te:TE} {pos':Pos} (hN:X.N.Nodup) (hi:X.N[i]? = some x) (hx:Loc X.env.scope x) (he:PE X e te) (hs:swapsWith e (some (.Name x pos')) pos.line X.env=pure false:=by rfl) (hf:X.fn x=true∨X.env.scope.names.lookup x=some .local:=by first | exact .inl rfl | exact .inr rfl | assumption) :
  PS X (.Assign [.Name x pos'] e pos) (tAsg te (gName i)):=by
 intro pins s σ H D I h
 refine wpAny_Assign_Name (thn (he pins s σ H _ I h) fun v s1 ⟨y,H1,I1,r1,q1⟩=>?_) hs
 exact Vbe I1 hN hi hx r1 (fun s2 I2=>⟨_,H1,I2,q1⟩) hf
noncomputable def tAugS (to ti te:TE) (tget:V→V→Hp→VK→Prop) (tip:TIp) (tset:TSet):TS:=fun D σ H=>to σ H fun o H1=>ti σ H1 fun i H2=>tget o i H2 fun x H3=>te σ H3 fun y H4=>tip x y H4 fun z H5=>tset o i z H5 fun H6=>D.nx σ H6
noncomputable def PGet (X:Cx) (t:V→V→Hp→VK→Prop):Prop :=
 ∀ (pins:List (Addr×Obj)) (s:Shared) (σ:St) (H:Hp) (o i:V) (ov iv:Value) (Q:VK),Inv X pins σ H s→RelV o ov→RelV i iv→t o i H Q →
  wpAny (model X.prog X.w) X.A (getItem ov iv) (EP X pins σ Q) X.xe s
theorem ps_augS {o i e:Expr} {to ti te:TE} {tget:V→V→Hp→VK→Prop} {tip:TIp} {tset:TSet} {op:Operator} {tpos:Pos} (ho:PE X o to) (hi:PE X i ti) (hg:PGet X tget) (he:PE X e te) (hp:PIp X op tip) (hs:PSet X tset)
  (ha:∀ ov iv new,augStore i ov iv new=(do holding [new,ov,iv] (setItem ov iv new); release [new,ov,iv] []; pure .next):=by intros; rfl):PS X (.AugAssign (.Subscript o i tpos) op e pos) (tAugS to ti te tget tip tset):=by
 intro pins s σ H D I h
 refine wpAny_AugAssign_SubscriptAny (thn (ho pins s σ H _ I h) fun ov s1 ⟨x1,H1,I1,r1,q1⟩=>?_) ha
 refine thn (hi pins s1 σ H1 _ I1 q1) fun iv s2 ⟨x2,H2,I2,r2,q2⟩=>?_
 refine thn (hg pins s2 σ H2 x1 x2 ov iv _ I2 r1 r2 q2) fun old s3 ⟨x3,H3,I3,r3,q3⟩=>?_
 refine thn (he pins s3 σ H3 _ I3 q3) fun v s4 ⟨x4,H4,I4,r4,q4⟩=>?_
 refine thn (hp pins s4 σ H4 x3 x4 old v _ I4 r3 r4 q4) fun new s5 ⟨x5,H5,I5,r5,q5⟩=>?_
 exact thn (hs pins s5 σ H5 x1 x2 x5 ov iv new _ I5 r1 r2 r5 q5) fun _ s6 ⟨H6,I6,q6⟩=>⟨σ,H6,I6,q6⟩
noncomputable def ipI (f:Int→Int→Int):TIp:=fun x y H Q=>∃ i j,x = .int i∧y = .int j∧Q (.int (f i j)) H
theorem ip_add:PIp X .Add (ipI fun i j=>i + j):=by
 intro pins s σ H x y v u Q I r1 r2 h
 obtain ⟨i,j,e1,e2,q⟩:=h
 subst e1; subst e2
 obtain ⟨t,rfl⟩:=r1
 obtain ⟨t',rfl⟩:=r2
 exact iadd_int ⟨.int _,H,I.tok _,⟨_,rfl⟩,q⟩
theorem ip_sub:PIp X .Sub (ipI fun i j=>i - j):=by
 intro pins s σ H x y v u Q I r1 r2 h
 obtain ⟨i,j,e1,e2,q⟩:=h
 subst e1; subst e2
 obtain ⟨t,rfl⟩:=r1
 obtain ⟨t',rfl⟩:=r2
 exact isub_int ⟨.int _,H,I.tok _,⟨_,rfl⟩,q⟩
end
section
variable {X:Cx} {pos:Pos}
noncomputable def tWhile (c:TT) (tb:TS):TS:=fun D σ H=>∃ W:Nat→St→Hp→Prop,(∃ m,W m σ H)∧∀ m σ H,W m σ H →
 c σ H fun b H1=>if b=true then ∃ N:St→Hp→Prop,(∀ σ' H',N σ' H'→∃ m',m' < m∧W m' σ' H')∧tb { D with nx:=N,ct:=N,bk:=D.nx } σ H1 else D.nx σ H1
theorem ps_while {c:Expr} {body:List Stmt} {tc:TT} {tb:TS} (hp:PassesOwn (model X.prog X.w) X.A X.env X.xe) (hc:PT X c tc) (hb:PSs X body tb):PS X (.While c body [] pos) (tWhile tc tb):=by
 intro pins s σ H D I h
 obtain ⟨W,⟨m0,w0⟩,turn⟩:=h
 refine wpAny_While (codeAny_whileLoop (fun n s'=>∃ σ' H',Inv X pins σ' H' s'∧W n σ' H') ?_ m0 ⟨σ,H,I,w0⟩)
 rintro n s1 ⟨σ1,H1,I1,w1⟩
 refine wpAny_passesOwn hp (thn (hc pins s1 σ1 H1 _ I1 (turn n σ1 H1 w1)) fun b s2 ⟨H2,I2,q2⟩=>?_)
 cases b with
 | true =>
  obtain ⟨N,hN,q2⟩:=q2
  rw [if_pos rfl]
  refine wpAny_passesOwn hp (thn (hb pins s2 σ1 H2 _ I2 q2) fun f s3 q3=>?_)
  cases f with
  | next =>
   obtain ⟨σ3,H3,I3,n3⟩:=q3
   obtain ⟨m',hm,w3⟩:=hN σ3 H3 n3
   exact ⟨m',hm,σ3,H3,I3,w3⟩
  | cont =>
   obtain ⟨σ3,H3,I3,n3⟩:=q3
   obtain ⟨m',hm,w3⟩:=hN σ3 H3 n3
   exact ⟨m',hm,σ3,H3,I3,w3⟩
  | brk=>exact q3
  | ret v=>exact q3
 | false =>
  rw [if_neg Bool.false_ne_true]
  exact wpAny_execs_nil ⟨σ1,H2,I2,q2⟩
end
structure It where
 go:Nat→Hp→Prop
 yld:Nat→Hp→V→Hp→Prop
 stop:Nat→Hp→Prop
noncomputable def FpOk (X:Cx) (pins:List (Addr×Obj)) (H:Hp) (b:Addr):Prop :=
 H b=none∧b≠X.env.locals∧b ∉ X.fs∧(b∈X.ex∨X.s₀.heap.objs.size≤b)∧(∀ x c,X.env.cells.lookup x=some c→c≠b)∧∀ p∈X.pn ++ pins,p.1≠b
theorem Inv.fpOk {X:Cx} {pins:List (Addr×Obj)} {σ:St} {H H':Hp} {s:Shared} {b:Addr} (I:Inv X pins σ H s) (hb:s.heap.objs.size≤b) (hn:H' b=none):FpOk X pins H' b:=by
 refine ⟨hn,Nat.ne_of_gt (Nat.lt_of_lt_of_le I.lt hb),I.nofs hb,.inr (Nat.le_trans I.sz hb),fun x c e z=>?_,fun p hp z=>?_⟩
 ·obtain ⟨v,q⟩:=I.cell x c e
  exact absurd (Nat.lt_of_lt_of_le q.lt (by rw [z]; exact hb)) (Nat.lt_irrefl _)
 ·exact absurd (Nat.lt_of_lt_of_le (Heap.lt_size (I.pin p hp).1) (by rw [z]; exact hb)) (Nat.lt_irrefl _)
structure Turn (cb:Bool) (P:Program) (w:World) (K:PySem.W.Frag) (tg:Expr) (J:It) (fp:List Addr) (it:Addr) (tn:Nat→Heap→Prop):Prop where
 mem:it∈fp
 obj:∀ i h,tn i h→∀ b∈fp,∃ o,h.get? b=some o∧∀ v,o.data≠.cell v
 keep:∀ i h h',tn i h→(∀ b∈fp,∀ o,h.get? b=some o→h'.get? b=some o)→tn i h'
 item:∀ (X:Cx),X.prog=P→X.w=w→X.K=K→X.calm=cb→∀ (i:Nat) (pins:List (Addr×Obj)) (s:Shared) (σ:St) (H:Hp) (E:Value→Shared→Prop),Inv X pins σ H s→(∀ b∈fp,FpOk X pins H b)→tn i s.heap→J.go i H →
  wpAny (model P w) X.A (pyNext (.ref it)) (fun r s1=>∃ u,r=some u ∧
   wpAny (model P w) X.A (letOwnedTupleGo tg (.ref it) u) (fun _ s2=>∃ x H',Inv X pins σ H' s2∧RelV x u∧J.yld i H x H'∧tn (i + 1) s2.heap∧∀ b∈fp,H' b=none) E s1) E s
 done:∀ (X:Cx),X.prog=P→X.w=w→X.K=K→X.calm=cb→∀ (i:Nat) (pins:List (Addr×Obj)) (s:Shared) (σ:St) (H:Hp) (E:Value→Shared→Prop),Inv X pins σ H s→(∀ b∈fp,FpOk X pins H b)→tn i s.heap→J.stop i H →
  wpAny (model P w) X.A (pyNext (.ref it)) (fun r s1=>r=none∧Inv X pins σ H s1) E s
 self:∀ (A:Around) (i:Nat) (s:Shared) (Q:Value→Shared→Prop) (E:Value→Shared→Prop),tn i s.heap→Q (.ref it) s→wpAny (model P w) A (pyIter (.ref it)) Q E s
noncomputable abbrev TI:=St→Hp→(It→Hp→Prop)→Prop
noncomputable def PIE (X:Cx) (pins:List (Addr×Obj)) (σ:St) (tg:Expr) (R:It→Hp→Prop) (itv:Value) (s2:Shared):Prop :=
 ∃ (it:Addr) (fp:List Addr) (tn:Nat→Heap→Prop) (J:It) (H':Hp),itv = .ref it∧Inv X pins σ H' s2∧Turn X.calm X.prog X.w X.K tg J fp it tn∧tn 0 s2.heap∧(∀ b∈fp,FpOk X pins H' b)∧R J H'
noncomputable def PI (X:Cx) (tg iter:Expr) (wi:TI):Prop :=
 ∀ (pins:List (Addr×Obj)) (s:Shared) (σ:St) (H:Hp) (R:It→Hp→Prop),Inv X pins σ H s→wi σ H R →
  wpAny (model X.prog X.w) X.A (eval iter X.env) (fun v s1=>wpAny (model X.prog X.w) X.A (pyIter v) (PIE X pins σ tg R) X.xe s1) X.xe s
theorem go_of {M : Model} {A : Around} {E : Value → Shared → Prop} {s : Shared} {tg : Expr} {it : Addr} {u : Value} {o : Obj} {n : String} {vs : Array Value} {Q : Unit → Shared → Prop} (ho : s.heap.get? it = some o) (hc : o.cls = .type n) (hd : o.data = .fields vs)
    (hn : ["enumerate", "zip", "dict_itemiterator", "dict_reverseitemiterator", "odict_iterator", "itertools.zip_longest", "itertools.pairwise"].contains n = false) (hQ : Q () s) : wpAny M A (letOwnedTupleGo tg (.ref it) u) Q E s := by
  unfold letOwnedTupleGo
  cases tg <;> first
    | exact wpAny_pure hQ
    | (cases u <;> first
        | exact wpAny_pure hQ
        | (refine wpAny_bind (wpAny_load ho ?_)
           rw [hc, hd]
           show wpAny M A (if (["enumerate", "zip", "dict_itemiterator", "dict_reverseitemiterator", "odict_iterator", "itertools.zip_longest", "itertools.pairwise"].contains n && vs[0]? == some (rawInt _)) = true then _ else _) Q E s
           rw [if_neg (by intro h; rw [hn, Bool.false_and] at h; cases h)]
           exact wpAny_pure hQ))
noncomputable def Itl (K:PySem.W.Frag) (a:Addr):It :=
 ⟨fun i H=>∃ xs x,SqL K H a xs∧xs[i]? = some x,fun i H x H'=>H'=H∧∀ xs,SqL K H a xs→xs[i]? = some x,fun i H=>∃ xs,SqL K H a xs∧xs.length≤i⟩
noncomputable def Itt (K:PySem.W.Frag) (a:Addr):It :=
 ⟨fun i H=>∃ xs x,SqT K H a xs∧xs[i]? = some x,fun i H x H'=>H'=H∧∀ xs,SqT K H a xs→xs[i]? = some x,fun i H=>∃ xs,SqT K H a xs∧xs.length≤i⟩
noncomputable def Itr (lo:Int) (n:Nat):It:=⟨fun i _=>i < n,fun i H x H'=>H'=H∧x = .int (lo + i),fun i _=>n≤i⟩
theorem turn_list {cb:Bool} (hcb:cb=true) {P:Program} {w:World} {K:PySem.W.Frag} {tg:Expr} (a it:Addr):Turn cb P w K tg (Itl K a) [it] it (fun i h=>h.IsListIter it a i) where
 mem:=by simp
 obj:=fun i h st b hb=>by
  have e:b=it:=by simpa using hb
  subst e
  obtain ⟨o,e,c,d⟩:=st
  exact ⟨o,e,fun v z=>by rw [d] at z; cases z⟩
 keep:=fun i h h' st k=>st.at fun o e=>k it (by simp) o e
 item:=by
  intro X hP hw hK hc i pins s σ H E I hf st hg
  subst hP hw hK
  obtain ⟨xs,x,hq,hx⟩:=hg
  obtain ⟨its,rv,p,hz⟩:=I.list hq
  obtain ⟨u,hu,ru⟩:=rv.get hx
  obtain ⟨f0,f1,f2,f3,f4,f5⟩:=hf it (by simp)
  refine wpAny_pyNext_list_item st p.isList (x:=u) (by simpa using hu) fun h' st' sb=>?_
  have I1:Inv X pins σ H { s with heap:=h' }:=I.turned (t':=s.toks) (fun b o hb e=>(sb.2 b hb).trans e) f0 f1 f3 f4 f5
  obtain ⟨o,e,c,d⟩:=id st'
  exact ⟨u,rfl,go_of (s:={ s with heap:=h' }) e c d (by decide) ⟨x,H,I1,ru,⟨rfl,fun ys hy=>by rw [I.list_inj hy hq]; exact hx⟩,st',fun b hb=>(hf b hb).1⟩⟩
 done:=by
  intro X hP hw hK hc i pins s σ H E I hf st hg
  subst hP hw hK
  obtain ⟨xs,hq,hx⟩:=hg
  obtain ⟨its,rv,p,hz⟩:=I.list hq
  obtain ⟨f0,f1,f2,f3,f4,f5⟩:=hf it (by simp)
  have hl:=rv.length
  exact wpAny_pyNext_list_end (I.ok.hd (hc.trans hcb)) st p.isList (by simp; omega) fun h' eb=>⟨rfl,I.turned (t':=s.toks) (fun b o hb e=>eb b o hb e) f0 f1 f3 f4 f5⟩
 self:=fun _ _ _ _ _ st h=>wpAny_pyIter_listiter st h
theorem turn_tuple {cb:Bool} (hcb:cb=true) {P:Program} {w:World} {K:PySem.W.Frag} {tg:Expr} (a it:Addr):Turn cb P w K tg (Itt K a) [it] it (fun i h=>h.IsTupleIter it a i) where
 mem:=by simp
 obj:=fun i h st b hb=>by
  have e:b=it:=by simpa using hb
  subst e
  obtain ⟨o,e,c,d⟩:=st
  exact ⟨o,e,fun v z=>by rw [d] at z; cases z⟩
 keep:=fun i h h' st k=>st.at fun o e=>k it (by simp) o e
 item:=by
  intro X hP hw hK hc i pins s σ H E I hf st hg
  subst hP hw hK
  obtain ⟨xs,x,hq,hx⟩:=hg
  obtain ⟨its,rv,p,hz⟩:=I.tuple hq
  obtain ⟨u,hu,ru⟩:=rv.get hx
  obtain ⟨f0,f1,f2,f3,f4,f5⟩:=hf it (by simp)
  refine wpAny_pyNext_tuple_item st (show s.heap.IsTuple a its.toArray from p) (x:=u) (by simpa using hu) fun h' st' sb=>?_
  have I1:Inv X pins σ H { s with heap:=h' }:=I.turned (t':=s.toks) (fun b o hb e=>(sb.2 b hb).trans e) f0 f1 f3 f4 f5
  obtain ⟨o,e,c,d⟩:=id st'
  exact ⟨u,rfl,go_of (s:={ s with heap:=h' }) e c d (by decide) ⟨x,H,I1,ru,⟨rfl,fun ys hy=>by rw [I.tuple_inj hy hq]; exact hx⟩,st',fun b hb=>(hf b hb).1⟩⟩
 done:=by
  intro X hP hw hK hc i pins s σ H E I hf st hg
  subst hP hw hK
  obtain ⟨xs,hq,hx⟩:=hg
  obtain ⟨its,rv,p,hz⟩:=I.tuple hq
  obtain ⟨f0,f1,f2,f3,f4,f5⟩:=hf it (by simp)
  have hl:=rv.length
  exact wpAny_pyNext_tuple_end (I.ok.hd (hc.trans hcb)) st (show s.heap.IsTuple a its.toArray from p) (by simp; omega) fun h' eb=>⟨rfl,I.turned (t':=s.toks) (fun b o hb e=>eb b o hb e) f0 f1 f3 f4 f5⟩
 self:=fun _ _ _ _ _ st h=>wpAny_pyIter_tupleiter st h
theorem turn_range {cb:Bool} {P:Program} {w:World} {K:PySem.W.Frag} {tg:Expr} (it:Addr) (lo:Int) (n:Nat):Turn cb P w K tg (Itr lo n) [it] it (fun i h=>IsRangeIter h it (lo + (i:Nat) * 1) ((n:Int) - (i:Nat)) 1) where
 mem:=by simp
 obj:=fun i h st b hb=>by
  have e:b=it:=by simpa using hb
  subst e
  exact ⟨_,st,fun v z=>by
   have z':Data.fields _=Data.cell v:=z
   cases z'⟩
 keep:=fun i h h' st k=>k it (by simp) _ st
 item:=by
  intro X hP hw hK hc i pins s σ H E I hf st hg
  subst hP hw hK
  obtain ⟨f0,f1,f2,f3,f4,f5⟩:=hf it (by simp)
  refine wpAny_pyNext_range_item st (by have:i < n:=hg; omega) fun h' st' sb=>?_
  have I1:Inv X pins σ H { s with heap:=h',toks:=s.toks + 1 }:=I.turned (fun b o hb e=>(sb.2 b hb).trans e) f0 f1 f3 f4 f5
  have e1:lo + ((i + 1:Nat):Int) * 1=lo + (i:Int) * 1 + 1:=by push_cast; omega
  have e2:(n:Int) - ((i + 1:Nat):Int)=(n:Int) - (i:Int) - 1:=by push_cast; omega
  refine ⟨_,rfl,go_of (s:={ s with heap:=h',toks:=s.toks + 1 }) (n:="range_iterator") st' rfl rfl (by decide) ⟨.int (lo + i),H,I1,⟨s.toks,?_⟩,⟨rfl,rfl⟩,by rw [e1,e2]; exact st',fun b hb=>(hf b hb).1⟩⟩
  rw [Int.mul_one]
 done:=by
  intro X hP hw hK hc i pins s σ H E I hf st hg
  subst hP hw hK
  obtain ⟨f0,f1,f2,f3,f4,f5⟩:=hf it (by simp)
  exact range_endH (I.hh.hds I.hok) st (by have:n≤i:=hg; omega) fun h' eb=>⟨rfl,I.turned (t':=s.toks) (fun b o hb e=>eb b o hb e) f0 f1 f3 f4 f5⟩
 self:=fun _ _ _ _ _ st h=>wpAny_pyIter_rangeiter st h
end L2
namespace L2
open PySem PySem.Spec PyProof.Rows
section
variable {X:Cx} {tg:Expr}
theorem Ybf {pins:List (Addr×Obj)} {σ:St} {H:Hp} {s:Shared} {R:It→Hp→Prop} {E:Value→Shared→Prop} {lo hi:Int} {t u v:Tok} {tk:Nat} (I:Inv X pins σ H s) (h1 : -(2 ^ 62)≤lo) (h2:lo < 2 ^ 62) (h3 : -(2 ^ 62)≤hi) (h4:hi < 2 ^ 62)
  (q:R (Itr lo (hi - lo).toNat) H):wpAny (model X.prog X.w) X.A (pyIter (.ref s.heap.objs.size)) (PIE X pins σ tg R) E { s with heap:=s.heap.push { cls:=.type "range",data:=.fields #[.int lo t,.int hi u,.int 1 v] },toks:=tk }:=by
 refine wpAny_pyIter_range (IsRange.new ..) (small_one h1 h2 h3 h4) ?_
 have I1:Inv X pins σ H { s with heap:=s.heap.push { cls:=.type "range",data:=.fields #[.int lo t,.int hi u,.int 1 v] },toks:=tk }:=I.kept fun b o e=>Heap.get?_push_of_some _ e
 refine ⟨(s.heap.push { cls:=.type "range",data:=.fields #[.int lo t,.int hi u,.int 1 v] }).objs.size,[(s.heap.push { cls:=.type "range",data:=.fields #[.int lo t,.int hi u,.int 1 v] }).objs.size],_,_,H,rfl,
  I1.kept (t':=tk) fun b o e=>Heap.get?_push_of_some _ e,turn_range _ lo (hi - lo).toNat,?_,fun b hb=>?_,q⟩
 ·have e1:lo + ((0:Nat):Int) * 1=lo:=by simp
  have e2:(((hi - lo).toNat:Nat):Int) - ((0:Nat):Int)=Builtin.Range.rangeSize lo hi 1:=by rw [rangeSize_one]; split <;> omega
  show IsRangeIter _ _ (lo + ((0:Nat):Int) * 1) ((((hi - lo).toNat:Nat):Int) - ((0:Nat):Int)) 1
  rw [e1,e2]
  exact Heap.get?_push_size _ rfl
 ·have e:b=(s.heap.push { cls:=.type "range",data:=.fields #[.int lo t,.int hi u,.int 1 v] }).objs.size:=by simpa using hb
  subst e
  exact I1.fpOk (Nat.le_refl _) (I1.hok.fresh (Nat.le_refl _))
noncomputable def iRng1 (ta:TA):TI:=fun σ H R=>ta σ H fun vs H1=>∃ j:Int,vs=[.int j]∧-(2 ^ 62)≤j∧j < 2 ^ 62∧R (Itr 0 j.toNat) H1
noncomputable def iRng2 (ta:TA):TI:=fun σ H R=>ta σ H fun vs H1=>∃ i j:Int,vs=[.int i,.int j]∧(-(2 ^ 62)≤i∧i < 2 ^ 62∧-(2 ^ 62)≤j∧j < 2 ^ 62)∧R (Itr i (j - i).toNat) H1
theorem pi_range1 {a:Expr} {ta:TA} {p pos:Pos} (hg:Gl X "range") (hm:X.mg "range" = none) (ha:PA X [a] ta) (hs:starEach [a] X.env=[(false,eval a X.env)]:=by rfl):PI X tg (.Call (.Name "range" p) [a] [] pos) (iRng1 ta):=by
 intro pins s σ H R I h
 refine Call_ (Wr I hg hm boot_range (PyProof.Rows.callWith_type1 (thn (ha pos pins s σ H _ I h) fun us s1 ⟨vs,H1,I1,r1,q1⟩=>?_) hs rfl))
 obtain ⟨j,e,q1,q2,q⟩:=q1
 subst e
 cases r1 with
 | cons r rr =>
  cases rr
  obtain ⟨t,rfl⟩:=r
  exact call_range_1 (Ybf I1 (by omega) (by omega) q1 q2 (by simpa using q))
theorem pi_range2 {a b:Expr} {ta:TA} {p pos:Pos} (hg:Gl X "range") (hm:X.mg "range" = none) (ha:PA X [a,b] ta) (hs:starEach [a,b] X.env=[(false,eval a X.env),(false,eval b X.env)]:=by rfl) (hs2:starEach [b] X.env=[(false,eval b X.env)]:=by rfl) :
  PI X tg (.Call (.Name "range" p) [a,b] [] pos) (iRng2 ta):=by
 intro pins s σ H R I h
 refine Call_ (Wr I hg hm boot_range (PyProof.Rows.callWith_type1 (thn (ha pos pins s σ H _ I h) fun us s1 ⟨vs,H1,I1,r1,q1⟩=>?_) (by rw [hs,hs2]) (by rw [hs2]; rfl)))
 obtain ⟨i,j,e,⟨q1,q2,q3,q4⟩,q⟩:=q1
 subst e
 cases r1 with
 | cons r rr =>
  cases rr with
  | cons r' rr =>
   cases rr
   obtain ⟨t,rfl⟩:=r
   obtain ⟨t',rfl⟩:=r'
   exact call_range_2 (Ybf I1 q1 q2 q3 q4 q)
noncomputable def tFor (wi:TI) (g:TG) (tb:TS):TS:=fun D σ H=>wi σ H fun J H1=>∃ W:Nat→Nat→St→Hp→Prop,(∃ m,W 0 m σ H1)∧∀ i m σ H,W i m σ H →
 (J.stop i H∧D.nx σ H)∨(J.go i H∧∃ N:St→Hp→Prop,(∀ σ' H',N σ' H'→∃ m',m' < m∧W (i + 1) m' σ' H')∧∀ x H',J.yld i H x H'→g x σ H' fun σ2 H2=>tb { D with nx:=N,ct:=N,bk:=D.nx } σ2 H2)
noncomputable def Xav (fp:List Addr) (h:Heap):List (Addr×Obj):=fp.filterMap fun b=>(h.get? b).map fun o=>(b,o)
theorem Wq {fp:List Addr} {h:Heap} {b:Addr} {o:Obj} (hb:b∈fp) (e:h.get? b=some o):(b,o)∈Xav fp h:=List.mem_filterMap.mpr ⟨b,hb,by rw [e]; rfl⟩
theorem of_pinsAt {fp:List Addr} {h:Heap} {p:Addr×Obj} (hp:p∈Xav fp h):p.1∈fp∧h.get? p.1=some p.2:=by
 obtain ⟨b,hb,e⟩:=List.mem_filterMap.mp hp
 cases q:h.get? b with
 | none=>rw [q] at e; cases e
 | some o =>
  rw [q] at e
  have e':(b,o)=p:=Option.some.inj e
  subst e'
  exact ⟨hb,q⟩
theorem Inv.pinned {pins:List (Addr×Obj)} {σ:St} {H:Hp} {s:Shared} {fp:List Addr} (I:Inv X pins σ H s) (hf:∀ b∈fp,FpOk X pins H b) (ho:∀ b∈fp,∃ o,s.heap.get? b=some o∧∀ v,o.data≠.cell v):Inv X (pins ++ Xav fp s.heap) σ H s :=
 I.pins_of fun p hp=>(List.mem_append.mp hp).elim (fun z=>I.pin p (List.mem_append_right _ z)) fun z=>by
  obtain ⟨hb,e⟩:=of_pinsAt z
  obtain ⟨f0,f1,f2,_⟩:=hf p.1 hb
  obtain ⟨o,e',d⟩:=ho p.1 hb
  rw [e] at e'; cases e'
  exact ⟨e,f0,f1,f2,d⟩
theorem Inv.unpinned {pins pl:List (Addr×Obj)} {σ:St} {H:Hp} {s:Shared} (I:Inv X (pins ++ pl) σ H s):Inv X pins σ H s:=I.pins_of fun p hp=>I.pin p (List.mem_append_right _ (List.mem_append_left _ hp))
theorem ps_for {iter:Expr} {body:List Stmt} {wi:TI} {g:TG} {tb:TS} {pos:Pos} (hp:PassesOwn (model X.prog X.w) X.A X.env X.xe) (hc:X.calm=true) (hi:PI X tg iter wi) (hg:PG X tg g) (hb:PSs X body tb)
  (hs:∀ x,foldedSetIterable iter X.env x=pure x:=by intro _; rfl):PS X (.For tg iter body [] pos) (tFor wi g tb):=by
 intro pins s σ H D I h
 refine wpAny_For (thn (hi pins s σ H _ I h) fun v s1 h1=>thn h1 fun itv s2 h2=>?_) hs
 obtain ⟨it,fp,tn,J,H2,e,I2,T,st2,f2,W,⟨m0,w0⟩,turn⟩:=h2
 subst e
 have stat:∀ {H':Hp},(∀ b∈fp,H' b=none)→∀ b∈fp,FpOk X pins H' b:=fun hn b hb=>⟨hn b hb,(f2 b hb).2⟩
 refine codeAny_forLoop_any (fun n s'=>∃ i σ' H',Inv X pins σ' H' s'∧tn i s'.heap∧(∀ b∈fp,H' b=none)∧W i n σ' H') ?_ m0 ⟨0,σ,H2,I2,st2,fun b hb=>(f2 b hb).1,w0⟩
 rintro n s3 ⟨i,σ3,H3,I3,st3,fr3,w3⟩
 rcases turn i n σ3 H3 w3 with ⟨stop,qn⟩ | ⟨go,N,hN,step⟩
 ·refine wpAny_passesOwn hp (thn (T.done X rfl rfl rfl rfl i pins s3 σ3 H3 X.xe I3 (stat fr3) st3 stop) fun r s4 ⟨hr,I4⟩=>?_)
  subst hr
  exact wpAny_execs_nil ⟨σ3,H3,I4,qn⟩
 ·refine wpAny_passesOwn hp (thn (T.item X rfl rfl rfl rfl i pins s3 σ3 H3 X.xe I3 (stat fr3) st3 go) fun r s4 ⟨u,hr,h4⟩=>?_)
  subst hr
  refine wpAny_passesOwn hp (thn h4 fun _ s5 ⟨x,H5,I5,r5,y5,st5,fr5⟩=>?_)
  have I5':=I5.pinned (stat fr5) (T.obj _ _ st5)
  refine wpAny_passesOwn hp (thn (hg _ s5 σ3 H5 x u _ I5' r5 (step x H5 y5)) fun _ s6 ⟨σ6,H6,I6,q6⟩=>?_)
  refine wpAny_passesOwn hp (thn (hb _ s6 σ6 H6 _ I6 q6) fun f s7 q7=>?_)
  have again:∀ {σ7:St} {H7:Hp},Inv X (pins ++ Xav fp s5.heap) σ7 H7 s7→N σ7 H7→∃ m,m < n∧∃ i σ' H',Inv X pins σ' H' s7∧tn i s7.heap∧(∀ b∈fp,H' b=none)∧W i m σ' H':=fun {σ7 H7} I7 n7=>by
   obtain ⟨m',hm,w7⟩:=hN σ7 H7 n7
   refine ⟨m',hm,i + 1,σ7,H7,I7.unpinned,T.keep _ _ _ st5 fun b hb o e=>(I7.pin (b,o) (List.mem_append_right _ (List.mem_append_right _ (Wq hb e)))).1,fun b hb=>?_,w7⟩
   obtain ⟨o,e,d⟩:=T.obj _ _ st5 b hb
   exact (I7.pin (b,o) (List.mem_append_right _ (List.mem_append_right _ (Wq hb e)))).2.1
  cases f with
  | next=>obtain ⟨σ7,H7,I7,n7⟩:=q7; exact again I7 n7
  | cont=>obtain ⟨σ7,H7,I7,n7⟩:=q7; exact again I7 n7
  | brk=>obtain ⟨σ7,H7,I7,q7⟩:=q7; exact ⟨σ7,H7,I7.unpinned,q7⟩
  | ret v=>obtain ⟨x7,σ7,H7,I7,r7,q7⟩:=q7; exact ⟨x7,σ7,H7,I7.unpinned,r7,q7⟩
end
end L2
namespace L2
open PySem PySem.Spec PyProof.Rows
noncomputable abbrev R2:=V→V→Hp→VK→Prop
noncomputable def OpR (X:Cx) (f:Value→Value→Sem Value) (r:R2):Prop :=
 ∀ (pins:List (Addr×Obj)) (s:Shared) (σ:St) (H:Hp) (x y:V) (v u:Value) (Q:VK),Inv X pins σ H s→RelV x v→RelV y u→r x y H Q →
  wpAny (model X.prog X.w) X.A (f v u) (EP X pins σ Q) X.xe s
noncomputable def UnR (X:Cx) (f:Value→Sem Value) (r:V→Hp→VK→Prop):Prop :=
 ∀ (pins:List (Addr×Obj)) (s:Shared) (σ:St) (H:Hp) (x:V) (v:Value) (Q:VK),Inv X pins σ H s→RelV x v→r x H Q →
  wpAny (model X.prog X.w) X.A (f v) (EP X pins σ Q) X.xe s
noncomputable def CallR (X:Cx) (f:Value) (r:List V→Hp→VK→Prop):Prop :=
 ∀ (pins:List (Addr×Obj)) (s:Shared) (σ:St) (H:Hp) (xs:List V) (us:List Value) (Q:VK),Inv X pins σ H s→Vals xs us→r xs H Q →
  wpAny (model X.prog X.w) X.A (call f us) (EP X pins σ Q) X.xe s
noncomputable def TruR (X:Cx) (r:V→Hp→(Bool→Hp→Prop)→Prop):Prop :=
 ∀ (pins:List (Addr×Obj)) (s:Shared) (σ:St) (H:Hp) (x:V) (v:Value) (Q:Bool→Hp→Prop),Inv X pins σ H s→RelV x v→r x H Q →
  wpAny (model X.prog X.w) X.A (truthy v) (TP X pins σ Q) X.xe s
noncomputable def tOp (r:R2) (ta tb:TE):TE:=fun σ H Q=>ta σ H fun x H1=>tb σ H1 fun y H2=>r x y H2 Q
noncomputable def tUn (r:V→Hp→VK→Prop) (ta:TE):TE:=fun σ H Q=>ta σ H fun x H1=>r x H1 Q
noncomputable def rI (C:Int→Int→Prop) (g:Int→Int→V):R2:=fun x y H Q=>∃ i j,x = .int i∧y = .int j∧C i j∧Q (g i j) H
noncomputable def rI0 (g:Int→Int→V):R2:=fun x y H Q=>∃ i j,x = .int i∧y = .int j∧Q (g i j) H
noncomputable def rU (g:Int→V):V→Hp→VK→Prop:=fun x H Q=>∃ i,x = .int i∧Q (g i) H
section
variable {X:Cx} {a b c:Expr} {ta tb tc:TE} {pos:Pos}
theorem binT (ha:PE X a ta) (hb:PE X b tb) {pins:List (Addr×Obj)} {s:Shared} {σ:St} {H:Hp} {R:V→V→Hp→Prop} (I:Inv X pins σ H s)
  (h:ta σ H fun x H1=>tb σ H1 fun y H2=>R x y H2) {Q:Value→Shared→Prop} {f:Value→Value→Sem Value}
  (hf:∀ v u s2 x y H2,Inv X pins σ H2 s2→RelV x v→RelV y u→R x y H2→wpAny (model X.prog X.w) X.A (f v u) Q X.xe s2) :
  wpAny (model X.prog X.w) X.A (eval a X.env) (fun v s₁=>wpAny (model X.prog X.w) X.A (eval b X.env) (fun u s₂=>wpAny (model X.prog X.w) X.A (f v u) Q X.xe s₂) X.xe s₁) X.xe s:=by
 refine thn (ha pins s σ H _ I h) fun v s1 ⟨x,H1,I1,r1,q1⟩=>?_
 refine thn (hb pins s1 σ H1 _ I1 q1) fun u s2 ⟨y,H2,I2,r2,q2⟩=>?_
 exact hf v u s2 x y H2 I2 r1 r2 q2
theorem pe_op {op:Operator} {r:R2} (ho:OpR X (binaryOp op) r) (ha:PE X a ta) (hb:PE X b tb):PE X (.BinOp a op b pos) (tOp r ta tb):=by
 intro pins s σ H Q I h
 exact wpAny_BinOp (binT ha hb I h fun v u s2 x y H2 I2 rx ry q=>ho pins s2 σ H2 x y v u Q I2 rx ry q)
theorem pe_un {op:UnaryOp} {r:V→Hp→VK→Prop} (ho:UnR X (unaryOp op) r) (ha:PE X a ta):PE X (.UnaryOp op a pos) (tUn r ta):=by
 intro pins s σ H Q I h
 exact UnaryOp_ (thn (ha pins s σ H _ I h) fun v s1 ⟨x,H1,I1,r1,q1⟩=>ho pins s1 σ H1 x v Q I1 r1 q1)
theorem opI {f:Value→Value→Sem Value} {C:Int→Int→Prop} {g:Int→Int→Int}
  (rule:∀ (i j:Int) (t u:Tok) (s:Shared) (Q:Value→Shared→Prop) (E:Value→Shared→Prop),C i j→Q (.int (g i j) s.toks) { s with toks:=s.toks + 1 }→wpAny (model X.prog X.w) X.A (f (.int i t) (.int j u)) Q E s) :
  OpR X f (rI C fun i j=>.int (g i j)):=by
 intro pins s σ H x y v u Q I rx ry h
 obtain ⟨i,j,rfl,rfl,hc,q⟩:=h
 obtain ⟨t,rfl⟩:=rx
 obtain ⟨t',rfl⟩:=ry
 exact rule i j t t' s _ _ hc ⟨.int (g i j),H,I.tok _,⟨_,rfl⟩,q⟩
theorem opI0 {f:Value→Value→Sem Value} {g:Int→Int→Int}
  (rule:∀ (i j:Int) (t u:Tok) (s:Shared) (Q:Value→Shared→Prop) (E:Value→Shared→Prop),Q (.int (g i j) s.toks) { s with toks:=s.toks + 1 }→wpAny (model X.prog X.w) X.A (f (.int i t) (.int j u)) Q E s) :
  OpR X f (rI0 fun i j=>.int (g i j)):=by
 intro pins s σ H x y v u Q I rx ry h
 obtain ⟨i,j,rfl,rfl,q⟩:=h
 obtain ⟨t,rfl⟩:=rx
 obtain ⟨t',rfl⟩:=ry
 exact rule i j t t' s _ _ ⟨.int (g i j),H,I.tok _,⟨_,rfl⟩,q⟩
theorem opB0 {f:Value→Value→Sem Value} {g:Int→Int→Bool}
  (rule:∀ (i j:Int) (t u:Tok) (s:Shared) (Q:Value→Shared→Prop) (E:Value→Shared→Prop),Q (.bool (g i j)) s→wpAny (model X.prog X.w) X.A (f (.int i t) (.int j u)) Q E s) :
  OpR X f (rI0 fun i j=>.bl (g i j)):=by
 intro pins s σ H x y v u Q I rx ry h
 obtain ⟨i,j,rfl,rfl,q⟩:=h
 obtain ⟨t,rfl⟩:=rx
 obtain ⟨t',rfl⟩:=ry
 exact rule i j t t' s _ _ ⟨.bl (g i j),H,I,rfl,q⟩
noncomputable def CPow (i j:Int):Prop:=0≤j∧j≤1000000∧i.natAbs < 2 ^ 64
noncomputable def CMul (i j:Int):Prop:=(-(2 ^ 64) < i∧i < 2 ^ 64)∨(-(2 ^ 64) < j∧j < 2 ^ 64)
theorem CMul.ok {i j:Int} (h:CMul i j):IntMulOk i j:=by
 rcases h with ⟨h1,h2⟩ | ⟨h1,h2⟩
 ·exact .of_left (intBits_le_64 h1 h2)
 ·exact .of_right (intBits_le_64 h1 h2)
theorem op_add:OpR X (binaryOp .Add) (rI0 fun i j=>.int (i + j)):=opI0 fun _ _ _ _ _ _ _ q=>add_int q
theorem op_sub:OpR X (binaryOp .Sub) (rI0 fun i j=>.int (i - j)):=opI0 fun _ _ _ _ _ _ _ q=>sub_int q
theorem op_mul:OpR X (binaryOp .Mult) (rI CMul fun i j=>.int (i * j)):=opI fun _ _ _ _ _ _ _ hc q=>mul_int q hc.ok
theorem op_mod:OpR X (binaryOp .Mod) (rI (fun _ j=>0 < j) fun i j=>.int (i % j)):=opI fun i j _ _ _ _ _ hc q=>by
 have h1:(0:Int) < j:=hc
 exact mod_int' (by omega) (by rw [Int.fmod_eq_emod_of_nonneg i (by omega)]; exact q)
theorem op_pow:OpR X (binaryOp .Pow) (rI CPow fun i j=>.int (i ^ j.toNat)):=opI fun _ _ _ _ _ _ _ hc q=>pow_int_small hc.1 hc.2.1 hc.2.2 q
theorem unI {f:Value→Sem Value} {g:Int→Int}
  (rule:∀ (i:Int) (t:Tok) (s:Shared) (Q:Value→Shared→Prop) (E:Value→Shared→Prop),Q (.int (g i) s.toks) { s with toks:=s.toks + 1 }→wpAny (model X.prog X.w) X.A (f (.int i t)) Q E s) :
  UnR X f (rU fun i=>.int (g i)):=by
 intro pins s σ H x v Q I rx h
 obtain ⟨i,rfl,q⟩:=h
 obtain ⟨t,rfl⟩:=rx
 exact rule i t s _ _ ⟨.int (g i),H,I.tok _,⟨_,rfl⟩,q⟩
theorem un_neg:UnR X (unaryOp .USub) (rU fun i=>.int (-i)):=unI fun _ _ _ _ _ q=>neg_int q
end
section
variable {X:Cx} {a b c:Expr} {ta tb tc:TE} {pos:Pos}
theorem Yaz {pins:List (Addr×Obj)} {σ:St} {H:Hp} {s:Shared} {Q:VK} {k k':Bool} (I:Inv X pins σ H s) (q:Q (.bl k) H) (e:k=k'):EP X pins σ Q (.bool k') s:=by
 subst e
 exact ⟨.bl k,H,I,rfl,q⟩
theorem op_lt:OpR X (compareOp .Lt) (rI0 fun i j=>.bl (decide (i < j))):=opB0 fun _ _ _ _ _ _ _ q=>lt_int q
theorem op_le:OpR X (compareOp .LtE) (rI0 fun i j=>.bl (decide (i≤j))):=opB0 fun _ _ _ _ _ _ _ q=>le_int q
theorem op_gt:OpR X (compareOp .Gt) (rI0 fun i j=>.bl (decide (j < i))):=opB0 fun _ _ _ _ _ _ _ q=>gt_int q
theorem op_ge:OpR X (compareOp .GtE) (rI0 fun i j=>.bl (decide (j≤i))):=opB0 fun _ _ _ _ _ _ _ q=>ge_int q
theorem op_lt_str:OpR X (compareOp .Lt) (fun x y H Q=>∃ i j,x = .str i∧y = .str j∧Q (.bl (decide (i.cps.toList < j.cps.toList))) H):=by
 intro pins s σ H x y v u Q I rx ry h
 obtain ⟨i,j,rfl,rfl,q⟩:=h
 obtain ⟨t,rfl⟩:=rx
 obtain ⟨t',rfl⟩:=ry
 exact lt_str (Yaz I q rfl)
theorem op_in_str:OpR X (compareOp .In) (fun x y H Q=>∃ i j,x = .str i∧y = .str j∧Q (.bl (!(Builtin.Str.occurrences j i 0 j.length 1).isEmpty)) H):=by
 intro pins s σ H x y v u Q I rx ry h
 obtain ⟨i,j,rfl,rfl,q⟩:=h
 obtain ⟨t,rfl⟩:=rx
 obtain ⟨t',rfl⟩:=ry
 exact in_str (Yaz I q rfl)
theorem op_isN:OpR X (compareOp .Is) (fun x y H Q=>y = .non∧Q (.bl (decide (x = .non))) H):=by
 intro pins s σ H x y v u Q I rx ry h
 obtain ⟨rfl,q⟩:=h
 cases ry
 refine is_none_gen (Yaz I q ?_)
 cases x <;> first
  | (cases rx; rfl)
  | (obtain ⟨t,rfl⟩:=rx; rfl)
theorem op_notN:OpR X (compareOp .IsNot) (fun x y H Q=>y = .non∧Q (.bl (!decide (x = .non))) H):=by
 intro pins s σ H x y v u Q I rx ry h
 obtain ⟨rfl,q⟩:=h
 cases ry
 refine isnot_none_gen (Yaz I q ?_)
 cases x <;> first
  | (cases rx; rfl)
  | (obtain ⟨t,rfl⟩:=rx; rfl)
theorem Wav:OpR X (compareOp .NotIn) (fun x y H Q=>∃ i j,x = .str i∧y = .str j∧Q (.bl (!(!(Builtin.Str.occurrences j i 0 j.length 1).isEmpty))) H):=by
 intro pins s σ H x y v u Q I rx ry h
 obtain ⟨i,j,rfl,rfl,q⟩:=h
 obtain ⟨t,rfl⟩:=rx
 obtain ⟨t',rfl⟩:=ry
 exact notIn_str (Yaz I q rfl)
theorem OpR.or {f:Value→Value→Sem Value} {r r':R2} (h:OpR X f r) (h':OpR X f r'):OpR X f (fun x y H Q=>r x y H Q∨r' x y H Q):=by
 intro pins s σ H x y v u Q I rx ry q
 rcases q with q | q
 ·exact h pins s σ H x y v u Q I rx ry q
 ·exact h' pins s σ H x y v u Q I rx ry q
theorem nomark (b:Expr) {op:CmpOp} (h:op≠.In:=by decide) (h2:op≠.NotIn:=by decide):behindInMarks op b=false:=by
 have e1:(op == CmpOp.In)=false:=by cases op <;> first | rfl | exact absurd rfl h
 have e2:(op == CmpOp.NotIn)=false:=by cases op <;> first | rfl | exact absurd rfl h2
 cases b <;> simp [behindInMarks,e1,e2]
theorem pe_cmpR {op:CmpOp} {r:R2} (ho:OpR X (compareOp op) r) (ha:PE X a ta) (hb:PE X b tb) (hm:behindInMarks op b=false):PE X (.Compare a [op] [b] pos) (tOp r ta tb):=by
 intro pins s σ H Q I h
 exact wpAny_Compare1 (binT ha hb I h fun v u s2 x y H2 I2 rx ry q=>ho pins s2 σ H2 x y v u Q I2 rx ry q) hm
noncomputable def tTest (t:TE):TT:=fun σ H Q=>t σ H fun x H'=>∃ k,x = .bl k∧Q k H'
theorem pt_cmpR {op:CmpOp} {r:R2} (ho:OpR X (compareOp op) r) (ha:PE X a ta) (hb:PE X b tb) (hm:behindInMarks op b=false):PT X (.Compare a [op] [b] pos) (tTest (tOp r ta tb)):=by
 intro pins s σ H Q I h
 refine wpAny_isTrue_Compare1 (thn (ha pins s σ H _ I h) fun v s1 ⟨x,H1,I1,r1,q1⟩=>thn (hb pins s1 σ H1 _ I1 q1) fun u s2 ⟨y,H2,I2,r2,q2⟩ =>
  thn (ho pins s2 σ H2 x y v u _ I2 r1 r2 q2) fun c s3 ⟨z,H3,I3,r3,k,e,q3⟩=>?_) hm
 subst e
 cases r3
 exact wpAny_truthy_bool ⟨H3,I3,q3⟩
noncomputable def Vbd (r r':R2) (ta tb tc:TE):TE:=fun σ H Q=>ta σ H fun x H1=>tb σ H1 fun y H2=>r x y H2 fun z H3=>∃ k,z = .bl k ∧
 (if k=true then tc σ H3 fun w' H4=>r' y w' H4 Q else Q (.bl false) H3)
theorem pe_chain {op op':CmpOp} {r r':R2} (ho:OpR X (compareOp op) r) (ho':OpR X (compareOp op') r') (ha:PE X a ta) (hb:PE X b tb) (hc:PE X c tc)
  (hm:lastMarks [op,op'] [b,c]=false:=by with_unfolding_all rfl):PE X (.Compare a [op,op'] [b,c] pos) (Vbd r r' ta tb tc):=by
 intro pins s σ H Q I h
 refine Compare_chain (thn (ha pins s σ H _ I h) fun v s1 ⟨x,H1,I1,r1,q1⟩=>chain_link (thn (hb pins s1 σ H1 _ I1 q1) fun u s2 ⟨y,H2,I2,r2,q2⟩ =>
  thn (ho pins s2 σ H2 x y v u _ I2 r1 r2 q2) fun d s3 ⟨z,H3,I3,r3,k,e,q3⟩=>?_)) hm
 subst e
 cases r3
 refine wpAny_truthy_bool ?_
 cases k with
 | false=>exact ite_ff ⟨.bl false,H3,I3,rfl,q3⟩
 | true=>exact ite_tt (chain_last (thn (hc pins s3 σ H3 _ I3 q3) fun w' s4 ⟨z',H4,I4,r4,q4⟩=>ho' pins s4 σ H4 y z' u w' Q I4 r2 r4 q4))
theorem pt_chain {op op':CmpOp} {r r':R2} (ho:OpR X (compareOp op) r) (ho':OpR X (compareOp op') r') (ha:PE X a ta) (hb:PE X b tb) (hc:PE X c tc)
  (hm:lastMarks [op,op'] [b,c]=false:=by with_unfolding_all rfl):PT X (.Compare a [op,op'] [b,c] pos) (tTest (Vbd r r' ta tb tc)):=by
 intro pins s σ H Q I h
 refine isTrue_chain (thn (ha pins s σ H _ I h) fun v s1 ⟨x,H1,I1,r1,q1⟩=>test_link (thn (hb pins s1 σ H1 _ I1 q1) fun u s2 ⟨y,H2,I2,r2,q2⟩ =>
  thn (ho pins s2 σ H2 x y v u _ I2 r1 r2 q2) fun d s3 ⟨z,H3,I3,r3,k,e,q3⟩=>?_)) hm
 subst e
 cases r3
 refine wpAny_truthy_bool ?_
 cases k with
 | false =>
  obtain ⟨k',e',q'⟩:=q3
  cases e'
  exact ite_ff ⟨H3,I3,q'⟩
 | true =>
  refine ite_tt (test_last (thn (hc pins s3 σ H3 _ I3 q3) fun w' s4 ⟨z',H4,I4,r4,q4⟩=>thn (ho' pins s4 σ H4 y z' u w' _ I4 r2 r4 q4) fun d' s5 ⟨z2,H5,I5,r5,k2,e2,q5⟩=>?_))
  subst e2
  cases r5
  exact wpAny_truthy_bool ⟨H5,I5,q5⟩
noncomputable def TruV (K:PySem.W.Frag) (x:V) (H:Hp) (k:Bool):Prop :=
 match x with
 | .non=>k=false
 | .bl b=>k=b
 | .int i=>k=(i != 0)
 | .str y=>y.length≤sizeLine∧k=((y.length:Int) != 0)
 | .byt y=>y.size≤sizeLine∧k=((y.size:Int) != 0)
 | .ref p=>(∃ xs,SqL K H p xs∧k = !xs.isEmpty)∨(∃ xs,SqT K H p xs∧k = !xs.isEmpty)∨∃ kvs,H p=some (.dK kvs)∧k = !kvs.isEmpty
 | _=>False
theorem isEmpty_kv {κ:Type} {kvs:List (κ×V)} {vs:List (κ×Value)} (r:KV kvs vs):(!vs.isEmpty) = !kvs.isEmpty:=by
 cases r <;> rfl
theorem Zag {xs:List V} {its:List Value} (r:Vals xs its):(!its.toArray.isEmpty) = !xs.isEmpty:=by
 cases r <;> simp
theorem V9:(sizeLine:Nat) < 2 ^ 63:=by rw [sizeLine_eq]; decide
theorem tru_ok:TruR X (fun x H Q=>∃ k,TruV X.K x H k∧Q k H):=by
 intro pins s σ H x v Q I rx h
 obtain ⟨k,e,q⟩:=h
 have hl:=V9
 have hs:sizeLine=16777216:=sizeLine_eq
 cases x with
 | non =>
  cases rx
  have e':k=false:=e
  subst e'
  exact truthy_none ⟨H,I,q⟩
 | bl b =>
  cases rx
  have e':k=b:=e
  subst e'
  exact wpAny_truthy_bool ⟨H,I,q⟩
 | int i =>
  obtain ⟨t,rfl⟩:=rx
  have e':k=(i != 0):=e
  subst e'
  exact PySem.P.truthy_int ⟨H,I,q⟩
 | str y =>
  obtain ⟨t,rfl⟩:=rx
  obtain ⟨hy,e'⟩:y.length≤sizeLine∧k=((y.length:Int) != 0):=e
  subst e'
  exact PySem.P.truthy_str (by omega) ⟨H,I.tok _,q⟩
 | byt y =>
  obtain ⟨t,rfl⟩:=rx
  obtain ⟨hy,e'⟩:y.size≤sizeLine∧k=((y.size:Int) != 0):=e
  subst e'
  exact PySem.W.truthy_bytes (by omega) ⟨H,I.tok _,q⟩
 | ref p =>
  cases rx
  have e':(∃ xs,SqL X.K H p xs∧k = !xs.isEmpty)∨(∃ xs,SqT X.K H p xs∧k = !xs.isEmpty)∨∃ kvs,H p=some (.dK kvs)∧k = !kvs.isEmpty:=e
  rcases e' with ⟨xs,hx,e'⟩ | ⟨xs,hx,e'⟩ | ⟨kvs,hx,e'⟩
  ·subst e'
   obtain ⟨its,r,pl,hz⟩:=I.list hx
   have hlen:=r.length
   exact wpAny_truthy_list pl.isList (by simp only [List.size_toArray]; omega) ⟨H,I.tok _,by rw [Zag r]; exact q⟩
  ·subst e'
   obtain ⟨its,r,pl,hz⟩:=I.tuple hx
   have hlen:=r.length
   exact truthy_tuple pl (by simp only [List.size_toArray]; omega) ⟨H,I.tok _,by rw [Zag r]; exact q⟩
  ·subst e'
   obtain ⟨hz,hS,vs,r,m⟩:kvs.length≤sizeLine∧(p == sysModules)=false∧∃ vs,KV kvs vs∧s.heap.DictOf (Vd X.prog X.w) p vs:=I.hok p _ hx
   have hlen:kvs.length=vs.length:=Paired.length r
   exact wpAny_truthy_dict hS m (by omega) ⟨H,I.tok _,by rw [isEmpty_kv r]; exact q⟩
 | _=>exact (show False from e).elim
theorem pt_truth (ha:PE X a ta) (he:∀ whole,isTrue a X.env whole=(do let v ← whole; standAt a.pos; holding [v] (truthy v))) :
  PT X a (fun σ H Q=>ta σ H fun x H'=>∃ k,TruV X.K x H' k∧Q k H'):=by
 intro pins s σ H Q I h
 exact isTrue_plain (thn (ha pins s σ H _ I h) fun v s1 ⟨x,H1,I1,r1,q1⟩=>tru_ok pins s1 σ H1 x v Q I1 r1 q1) (he _)
theorem op_add_str:OpR X (binaryOp .Add) (fun x y H Q=>∃ i j,x = .str i∧y = .str j∧i.length + j.length≤sizeLine∧Q (.str (i ++ j)) H):=by
 intro pins s σ H x y v u Q I rx ry h
 obtain ⟨i,j,rfl,rfl,hz,q⟩:=h
 obtain ⟨t,rfl⟩:=rx
 obtain ⟨t',rfl⟩:=ry
 exact add_str (fun t' tk=>⟨.str (i ++ j),H,I.tok _,⟨_,rfl⟩,q⟩) hz
theorem vals1 {x:V} {us:List Value} (r:Vals [x] us):∃ u,us=[u]∧RelV x u:=by
 cases r with
 | cons r1 r2=>cases r2; exact ⟨_,rfl,r1⟩
theorem vals2 {x y:V} {us:List Value} (r:Vals [x,y] us):∃ u w',us=[u,w']∧RelV x u∧RelV y w':=by
 cases r with
 | cons r1 r2 =>
  cases r2 with
  | cons r3 r4=>cases r4; exact ⟨_,_,rfl,r1,r3⟩
theorem call_max2 (hc:X.calm=true):CallR X (.builtin "max") (fun xs H Q=>∃ i j,xs=[.int i,.int j]∧Q (.int (if j > i then j else i)) H):=by
 intro pins s σ H xs us Q I r h
 obtain ⟨i,j,rfl,q⟩:=h
 obtain ⟨u,w',rfl,⟨t,rfl⟩,⟨t',rfl⟩⟩:=vals2 r
 refine max_two_ints (I.ok.hd hc) fun h' tk k=>⟨_,H,I.kept k,?_,q⟩
 by_cases hj:j > i
 ·rw [if_pos hj,if_pos hj]; exact ⟨_,rfl⟩
 ·rw [if_neg hj,if_neg hj]; exact ⟨_,rfl⟩
theorem call_min2 (hc:X.calm=true):CallR X (.builtin "min") (fun xs H Q=>∃ i j,xs=[.int i,.int j]∧Q (.int (if j < i then j else i)) H):=by
 intro pins s σ H xs us Q I r h
 obtain ⟨i,j,rfl,q⟩:=h
 obtain ⟨u,w',rfl,⟨t,rfl⟩,⟨t',rfl⟩⟩:=vals2 r
 refine min_two_ints (I.ok.hd hc) fun h' tk k=>⟨_,H,I.kept k,?_,q⟩
 by_cases hj:j < i
 ·rw [if_pos hj,if_pos hj]; exact ⟨_,rfl⟩
 ·rw [if_neg hj,if_neg hj]; exact ⟨_,rfl⟩
theorem Wa0:CallR X (.type "int") (fun xs H Q=>(∃ i,xs=[.int i]∧Q (.int i) H)∨∃ k,xs=[.bl k]∧Q (.int (if k then 1 else 0)) H):=by
 intro pins s σ H xs us Q I r h
 rcases h with ⟨i,rfl,q⟩ | ⟨k,rfl,q⟩
 ·obtain ⟨u,rfl,t,rfl⟩:=vals1 r
  exact call_int_int ⟨.int i,H,I,⟨_,rfl⟩,q⟩
 ·obtain ⟨u,rfl,r1⟩:=vals1 r
  cases r1
  exact call_int_bool ⟨.int (if k then 1 else 0),H,I.tok _,⟨_,rfl⟩,q⟩
noncomputable def LenV (K:PySem.W.Frag) (x:V) (H:Hp) (n:Nat):Prop :=
 match x with
 | .str y=>y.length≤sizeLine∧n=y.length
 | .byt y=>y.size≤sizeLine∧n=y.size
 | .ref p=>(∃ xs,SqL K H p xs∧n=xs.length)∨∃ xs,SqT K H p xs∧n=xs.length
 | _=>False
theorem call_len:CallR X (.builtin "len") (fun xs H Q=>∃ x n,xs=[x]∧LenV X.K x H n∧Q (.int n) H):=by
 intro pins s σ H xs us Q I r h
 obtain ⟨x,n,rfl,e,q⟩:=h
 obtain ⟨u,rfl,rx⟩:=vals1 r
 have hl:=V9
 have hs:sizeLine=16777216:=sizeLine_eq
 cases x with
 | str y =>
  obtain ⟨t,rfl⟩:=rx
  obtain ⟨hy,e'⟩:y.length≤sizeLine∧n=y.length:=e
  subst e'
  exact len_str (by omega) ⟨.int _,H,I.tok _,⟨_,rfl⟩,q⟩
 | byt y =>
  obtain ⟨t,rfl⟩:=rx
  obtain ⟨hy,e'⟩:y.size≤sizeLine∧n=y.size:=e
  subst e'
  exact PySem.W.len_bytes (by omega) ⟨.int _,H,I.tok _,⟨_,rfl⟩,q⟩
 | ref p =>
  cases rx
  have e':(∃ xs,SqL X.K H p xs∧n=xs.length)∨∃ xs,SqT X.K H p xs∧n=xs.length:=e
  rcases e' with ⟨xs,hx,e'⟩ | ⟨xs,hx,e'⟩
  ·subst e'
   obtain ⟨its,r',pl,hz⟩:=I.list hx
   have hlen:=r'.length
   exact Calls.call_len_list pl.isList (by simp only [List.size_toArray]; omega) ⟨.int xs.length,H,I.tok _,⟨_,by simp only [List.size_toArray]; rw [hlen]⟩,q⟩
  ·subst e'
   obtain ⟨its,r',pl,hz⟩:=I.tuple hx
   have hlen:=r'.length
   exact len_tuple pl (by simp only [List.size_toArray]; omega) ⟨.int xs.length,H,I.tok _,⟨_,by simp only [List.size_toArray]; rw [hlen]⟩,q⟩
 | _=>exact (show False from e).elim
end
end L2
namespace L2
open PySem PySem.Spec PyProof.Rows
structure ObjM (h:Heap) (x dx C:Addr) (mA:Str→Option Value):Prop where
 obj:h.get? x=some (PySem.W.instObj C dx)
 ns:h.Ns1 dx mA
 ne:dx≠x
theorem lookIn_ns {h:Heap} {dx:Addr} {mA:Str→Option Value} (n:h.Ns1 dx mA):∃ od,h.get? dx=some od∧∀ name,PySem.W.lookIn name od=some (mA name):=by
 obtain ⟨o,es,ep,ho,hd,hk,_,hm⟩:=n
 refine ⟨o,ho,fun name=>?_⟩
 have e:=hm name
 unfold nsFind findBy at e
 rw [← Array.find?_toList] at e
 unfold PySem.W.lookIn
 rw [hd]
 dsimp only
 split
 ·rename_i y q
  rw [q] at e
  exact congrArg some e
 ·rename_i q
  rw [q] at e
  have a:es.toList.any (·.refKey)=false:=by
   rw [List.any_eq_false]
   intro y hy
   obtain ⟨z,t,hkey⟩:=hk y (Array.mem_toList_iff.mp hy)
   simp [DictEntry.refKey,hkey]
  have a':¬ es.toList.any (·.refKey)=true:=by rw [a]; exact Bool.false_ne_true
  rw [if_neg a']
  exact congrArg some e
theorem ObjM.look {h:Heap} {x dx C:Addr} {mA:Str→Option Value} (I:ObjM h x dx C mA):∃ od,PySem.W.InstAt h x (PySem.W.instObj C dx) C (some od)∧∀ name,PySem.W.lookIn name od=some (mA name) :=
 let ⟨od,ho,hl⟩:=lookIn_ns I.ns
 ⟨od,⟨I.obj,rfl,rfl,ho⟩,hl⟩
section
variable {prog:Program} {w:World} {A:Around} {E:Value→Shared→Prop} {s:Shared} {K:PySem.W.Frag} {x dx C f:Addr} {mA:Str→Option Value} {name:Str} {v:Value}
end
section
variable {P:Program} {w:World} {H H':Hp} {h h':Heap} {a C dx:Addr} {fs fs':List (Str×V)}
theorem ins_get (hok:HOk P w H h) (e:H a=some (.ins C dx fs)):∃ mA,ObjM h a dx C mA∧(∀ f,RelO (fs.lookup f) (mA f))∧PySem.Within mA (fs.map (·.1))∧fs.length≤1000∧H dx=some (.own a):=by
 obtain ⟨d,z,ne,ob,mA,n,r,q⟩:=(show ObjOk P w H h a (.ins C dx fs) from hok a _ e)
 exact ⟨mA,⟨ob,n,ne⟩,r,q,z,d⟩
end
structure Cls (K:PySem.W.Frag) (C:Addr):Prop where
 pg:PySem.W.plainGet K C Str.empty=true
 hd:PySem.W.hasDictIn K C=true
 po:PySem.W.plainOver K C=true
 sa:PySem.W.findIn K (.ref C) "__setattr__" = some (some (.builtin "object.__setattr__"))
theorem Cls.get {K:PySem.W.Frag} {C:Addr} (c:Cls K C) (f:Str):PySem.W.plainGet K C f=true:=c.pg
noncomputable def Ya3 (K:PySem.W.Frag) (C:Addr) (f:Str):Prop:=PySem.W.findIn K (.ref C) f=some none
structure Meth (K:PySem.W.Frag) (C:Addr) (m:Str) (f:Addr):Prop where
 at_:PySem.W.findIn K (.ref C) m=some (some (.ref f))
 fn:PySem.W.isFn K (.ref f)=true
 kp:PySem.W.keepIn K (.ref f)=true
section
variable {X:Cx} {pins:List (Addr×Obj)} {σ:St} {H:Hp} {s:Shared} {a C dx:Addr} {fs:List (Str×V)} {f:Str} {v:V} {A:Around} {E:Value→Shared→Prop}
end
section
variable {X:Cx} {o e value:Expr} {f:Str} {pos pos' tpos:Pos} {ta tv:TE}
end
section
variable {X:Cx} {pins:List (Addr×Obj)} {σ:St} {H:Hp} {s:Shared} {A:Around} {E:Value→Shared→Prop} {Q:Value→Shared→Prop} {c:Value} {b:Bool}
inductive TyOf (K:PySem.W.Frag) (H:Hp):V→Value→Prop where
 | non:TyOf K H .non (.type "NoneType")
 | bl (x:Bool):TyOf K H (.bl x) (.type "bool")
 | int (i:Int):TyOf K H (.int i) (.type "int")
 | str (x:Str):TyOf K H (.str x) (.type "str")
 | flt (x:UInt64):TyOf K H (.flt x) (.type "float")
 | lst {a:Addr} {xs:List V} (e:H a=some (.lst xs)):TyOf K H (.ref a) (.type "list")
 | frz {a:Addr} {o:Obj} {xs:List V} (e:H a=some (.frz o (.lst xs))):TyOf K H (.ref a) (.type "list")
 | tup {a:Addr} {xs:List V} (e:H a=some (.tup xs)):TyOf K H (.ref a) (.type "tuple")
 | dK {a:Addr} {kvs:List (Key×V)} (e:H a=some (.dK kvs)):TyOf K H (.ref a) (.type "dict")
 | dT {a:Addr} {kvs:List (List Key×V)} (e:H a=some (.dT kvs)):TyOf K H (.ref a) (.type "dict")
 | ins {a C dx:Addr} {fs:List (Str×V)} (e:H a=some (.ins C dx fs)) (cl:Cls K C) (ha:PySem.W.findIn K (.ref C) "__class__" = some (some (.builtin "object.__class__")))
   (hn:PySem.W.specialIn K (.builtin "object.__class__") "__get__" = some (some (.builtin "getset_descriptor.__get__"))) (htk:PySem.W.takesIn K (.builtin "object.__class__")=some true)
   (hm:PySem.W.mroIn K C (.type "object")=some true):TyOf K H (.ref a) (.ref C)
theorem isinst_ok {x:V} {u t:Value} (I:Inv X pins σ H s) (rx:RelV x u) (ty:TyOf X.K H x t) (e:PySem.W.kitOne X.K t c=some b) (h:∀ tk,Q (.bool b) { s with toks:=tk }) :
  wpAny (model X.prog X.w) A (call (.builtin "isinstance") [u,c]) Q E s:=by
 cases ty with
 | non=>cases (show u=Value.none from rx); exact PySem.W.kia_one PySem.W.kitx_none I.kIn True.intro e (fun z=>nomatch z) h
 | bl y=>cases (show u=Value.bool y from rx); exact PySem.W.kia_one PySem.W.kitx_bool I.kIn True.intro e (fun z=>nomatch z) h
 | int i=>obtain ⟨t,q⟩:=(show ∃ t,u=Value.int i t from rx); cases q; exact PySem.W.kia_one PySem.W.kitx_int I.kIn True.intro e (fun z=>nomatch z) h
 | str y=>obtain ⟨t,q⟩:=(show ∃ t,u=Value.str y t from rx); cases q; exact PySem.W.kia_one PySem.W.kitx_str I.kIn True.intro e (fun z=>nomatch z) h
 | flt y=>obtain ⟨t,q⟩:=(show ∃ t,u=Value.float y t from rx); cases q; exact PySem.W.kia_one PySem.W.kitx_float I.kIn True.intro e (fun z=>nomatch z) h
 | @lst a xs ea =>
  cases (show u=Value.ref a from rx)
  obtain ⟨_,_,n,_,h1⟩:=(show ObjOk X.prog X.w H s.heap a (.lst xs) from I.hok a _ ea)
  exact PySem.W.kia_one PySem.W.kitx_list I.kIn ⟨_,h1,rfl⟩ e (fun z=>nomatch z) h
 | @frz a ob xs ea =>
  cases (show u=Value.ref a from rx)
  obtain ⟨_,_,_,n,_,h1⟩:=(show ObjOk X.prog X.w H s.heap a (.frz ob (.lst xs)) from I.hok a _ ea)
  exact PySem.W.kia_one PySem.W.kitx_list I.kIn ⟨_,h1,rfl⟩ e (fun z=>nomatch z) h
 | @tup a xs ea =>
  cases (show u=Value.ref a from rx)
  obtain ⟨_,_,_,p⟩:=(show ObjOk X.prog X.w H s.heap a (.tup xs) from I.hok a _ ea)
  obtain ⟨o,h1,h2,_⟩:=p
  exact PySem.W.kia_one PySem.W.kitx_tuple I.kIn ⟨o,h1,h2⟩ e (fun z=>nomatch z) h
 | @dK a kvs ea =>
  cases (show u=Value.ref a from rx)
  obtain ⟨_,_,vs,_,p⟩:=(show ObjOk X.prog X.w H s.heap a (.dK kvs) from I.hok a _ ea)
  obtain ⟨o,es,ep,h1,h2,_⟩:=p
  exact PySem.W.kia_one PySem.W.kitx_dict I.kIn ⟨o,h1,h2.1⟩ e (fun z=>nomatch z) h
 | @dT a kvs ea =>
  cases (show u=Value.ref a from rx)
  obtain ⟨_,_,xs,_,o,es,ep,h1,h2,_⟩:=(show ObjOk X.prog X.w H s.heap a (.dT kvs) from I.hok a _ ea)
  exact PySem.W.kia_one PySem.W.kitx_dict I.kIn ⟨o,h1,h2.1⟩ e (fun z=>nomatch z) h
 | @ins a C dx fs ea cl ha hn htk hm =>
  cases (show u=Value.ref a from rx)
  obtain ⟨mA,O,_⟩:=ins_get I.hok ea
  obtain ⟨od,J,_⟩:=O.look
  exact PySem.W.kia_one (PySem.W.kitx_own (cl.get _) cl.hd ha hn htk hm) I.kIn J e (fun z=>nomatch z) h
end
end L2
namespace L2
open PySem PySem.Spec PyProof.Rows
structure Room (k:Nat) (A:Around):Prop where
 hd:16≤k→A.handled=none
 dp:A.depth + 3 * k + 5 < recursionLimit
 un:A.units + 16 * k + 200 < cLine
 gd:A.guards=some []
theorem Room.mono {j k:Nat} {A:Around} (r:Room k A) (h:j≤k):Room j A:=⟨fun z=>r.hd (Nat.le_trans z h),by have:=r.dp; omega,by have:=r.un; omega,r.gd⟩
theorem Room.deeper {k:Nat} {A:Around} (r:Room (k + 1) A) (env:Env):Room k (A.deeper env) :=
 ⟨fun z=>r.hd (Nat.le_succ_of_le z),by have:=r.dp; show A.depth + 1 + 3 * k + 5 < _; omega,by have:=r.un; show A.units + 3 + 16 * k + 200 < _; omega,r.gd⟩
theorem Room.in1 {k:Nat} {A:Around} (r:Room (k + 1) A):Room k A.in1 :=
 ⟨fun z=>r.hd (Nat.le_succ_of_le z),by have:=r.dp; show A.depth + 3 * k + 5 < _; omega,by have:=r.un; show A.units + 1 + 16 * k + 200 < _; omega,r.gd⟩
theorem Room.depth {k:Nat} {A:Around} (r:Room k A):A.depth < recursionLimit:=by have:=r.dp; omega
theorem Room.units {k:Nat} {A:Around} (r:Room k A):A.units + 64 < cLine:=by have:=r.un; omega
noncomputable def tNil:TA:=fun _ H Q=>Q [] H
noncomputable def tCons (ta:TE) (tr:TA):TA:=fun σ H Q=>ta σ H fun x H1=>tr σ H1 fun xs H2=>Q (x :: xs) H2
section
variable {X:Cx} {e:Expr} {es:List Expr} {te:TE} {t:TA} {pos:Pos}
theorem pa_nil:PA X [] tNil:=fun _ _ _ _ H Q I h=>Calls.spliced_nil ⟨[],H,I,.nil,h⟩
theorem Xak (ha:PE X e te) (hr:PA X es t) (hs:starEach (e :: es) X.env=(false,eval e X.env) :: starEach es X.env:=by rfl):PA X (e :: es) (tCons te t):=by
 intro pos pins s σ H Q I h
 rw [hs]
 show wpAny _ _ (spliced ((false,eval e X.env) :: backTo pos (starEach es X.env))) _ _ s
 refine Calls.spliced_cons (thn (ha pins s σ H _ I h) fun u s1 ⟨x,H1,I1,r1,q1⟩=>?_)
 exact thn (hr pos pins s1 σ H1 _ I1 q1) fun us s2 ⟨xs,H2,I2,r2,q2⟩=>⟨x :: xs,H2,I2,.cons r1 r2,q2⟩
noncomputable def tTup (t:TA):TE:=fun σ H Q=>t σ H fun xs H1=>xs.length≤sizeLine∧∀ p,H1 p=none→Q (.ref p) (upd H1 p (.tup xs))
noncomputable def tLst (t:TA):TE:=fun σ H Q=>t σ H fun xs H1=>xs.length≤sizeLine∧∀ p,H1 p=none→Q (.ref p) (upd H1 p (.lst xs))
theorem pe_tup {x1} (h:PA X es t):PE X (.Tuple es x1 pos) (tTup t):=by
 intro pins s σ H Q I hq
 refine wpAny_Tuple_spliced (thn (h pos pins s σ H _ I hq) fun us s1 ⟨xs,H1,I1,r,z,q⟩=>⟨by rw [← r.length]; exact z,?_⟩)
 have hf:H1 s1.heap.objs.size=none:=I1.hok.fresh (Nat.le_refl _)
 refine ⟨.ref s1.heap.objs.size,upd H1 s1.heap.objs.size (.tup xs),I1.laid (t':=s1.toks) (fun b u e=>Heap.get?_push_of_some _ e) (Nat.le_refl _) ?_,rfl,q _ hf⟩
 exact ⟨z,us,r,⟨_,Heap.get?_push_size _ rfl,rfl,_,rfl,rfl⟩⟩
theorem pe_lst (h:PA X es t):PE X (.List es pos) (tLst t):=by
 intro pins s σ H Q I hq
 refine wpAny_List_spliced (thn (h pos pins s σ H _ I hq) fun us s1 ⟨xs,H1,I1,r,z,q⟩=>⟨by rw [← r.length]; exact z,?_⟩)
 have hf:H1 s1.heap.objs.size=none:=I1.hok.fresh (Nat.le_refl _)
 refine ⟨.ref s1.heap.objs.size,upd H1 s1.heap.objs.size (.lst xs),I1.laid (t':=s1.toks) (fun b u e=>Heap.get?_push_of_some _ e) (Nat.le_refl _) ?_,rfl,q _ hf⟩
 exact ⟨z,us,0,r,Heap.get?_push_size _ rfl⟩
end
noncomputable abbrev Sp:=List V→Hp→VK→XK→Prop
noncomputable abbrev CXT:=List Env→Hp→Shared→XK→Value→Shared→Prop
structure Env0 (P:Program) (w:World) (K:PySem.W.Frag) (mg:Str→Option Value) (base:Heap) (A:Around) (outer:List Env) (s:Shared) (H:Hp):Prop where
 frames:A.frames=some outer
 mod:Mod K mg base
 bs:∀ b o,base.get? b=some o→s.heap.get? b=some o∧H b=none
 bsz:base.objs.size≤s.heap.objs.size
 funs:s.heap.FunFrames base outer
 frf:∀ b∈frs outer,H b=none
 hok:HOk P w H s.heap
 bare:AllBare s.gens
 hh:HdOk A H
noncomputable def CE (outer:List Env) (P:Program) (w:World) (H:Hp) (s:Shared) (Q:VK) (u:Value) (s':Shared):Prop :=
 ∃ v H',s'.os=s.os∧AllBare s'.gens∧Un (frs outer) [] H H' s.heap s'.heap∧HOk P w H' s'.heap∧RelV v u∧Q v H'
noncomputable def CR (CX:CXT) (outer:List Env) (P:Program) (w:World) (H:Hp) (s:Shared) (Q:VK) (E:XK) (r:Result) (s':Shared):Prop :=
 match r with
 | .ok (.ret u)=>CE outer P w H s Q u s'
 | .ok _=>False
 | .error e=>CX outer H s E e s'
structure FnOk (P:Program) (w:World) (K:PySem.W.Frag) (mg:Str→Option Value) (base:Heap) (CX:CXT) (k:Nat) (f:Addr) (fd:FuncData) (ps:List Str) (sp:Sp):Prop where
 len:∀ vs H Q E,sp vs H Q E→vs.length=ps.length
 run:∀ (A:Around) (outer:List Env) (s:Shared) (H:Hp) (args:Args) (us:List Value) (vs:List V) (Q:VK) (E:XK),Room k A→Env0 P w K mg base A outer s H→BindsTo s fd args (ps.zip us)→Vals vs us→sp vs H Q E →
  codeAny (model P w) A (.call (.ref f) args) (CR CX outer P w H s Q E) s
theorem FnOk.mono {P:Program} {w:World} {K:PySem.W.Frag} {mg:Str→Option Value} {base:Heap} {CX:CXT} {j k:Nat} {f:Addr} {fd:FuncData} {ps:List Str} {sp:Sp} (F:FnOk P w K mg base CX j f fd ps sp) (h:j≤k) :
  FnOk P w K mg base CX k f fd ps sp:=⟨F.len,fun A outer s H args us vs Q E hr=>F.run A outer s H args us vs Q E (hr.mono h)⟩
theorem FnOk.imp {P:Program} {w:World} {K:PySem.W.Frag} {mg:Str→Option Value} {base:Heap} {CX:CXT} {k:Nat} {f:Addr} {fd:FuncData} {ps:List Str} {sp sp':Sp} (F:FnOk P w K mg base CX k f fd ps sp)
  (h:∀ vs H Q E,sp' vs H Q E→sp vs H Q E):FnOk P w K mg base CX k f fd ps sp' :=
 ⟨fun vs H Q E q=>F.len vs H Q E (h _ _ _ _ q),fun A outer s H args us vs Q E hr he hb hv hs=>F.run A outer s H args us vs Q E hr he hb hv (h _ _ _ _ hs)⟩
theorem Env0.in1 {P:Program} {w:World} {K:PySem.W.Frag} {mg:Str→Option Value} {base:Heap} {A:Around} {outer:List Env} {s:Shared} {H:Hp} (e:Env0 P w K mg base A outer s H) :
  Env0 P w K mg base A.in1 outer s H:=⟨e.frames,e.mod,e.bs,e.bsz,e.funs,e.frf,e.hok,e.bare,e.hh⟩
section
variable {X:Cx} {pins:List (Addr×Obj)} {σ:St} {H:Hp} {s s':Shared}
theorem Inv.env0 (I:Inv X pins σ H s):Env0 X.prog X.w X.K X.mg X.base X.A X.stack s H :=
 ⟨I.ok.frames,I.ok.mod,I.bs,Nat.le_trans I.ok.bsz I.sz,I.stack,I.stkFree,I.hok,I.bare,I.hh⟩
theorem Inv.after {Q:VK} {u:Value} (I:Inv X pins σ H s) (h:CE X.stack X.prog X.w H s Q u s'):EP X pins σ Q u s':=by
 obtain ⟨v,H',os,bare,un,hok,r,q⟩:=h
 obtain ⟨hh,g,d,t,os'⟩:=s'
 obtain rfl:os'=s.os:=os
 exact ⟨v,H',I.call (h':=hh) (g':=g) (d':=d) (t':=t) (ch:=[]) un hok bare (fun b z=>absurd z (by simp)),r,q⟩
end
noncomputable def tCall (sp:Sp) (dvs:List V) (E:XK) (t:TA):TE:=fun σ H Q=>t σ H fun vs H1=>sp (vs ++ dvs) H1 Q E
noncomputable def Binds (K:PySem.W.Frag) (fd:FuncData) (ps:List Str) (ds:List Value):Prop :=
 ∀ (s:Shared) (us:List Value),K.In s.heap→(us ++ ds).length=ps.length→BindsTo s fd ⟨us,[]⟩ (ps.zip (us ++ ds))
theorem Binds.all {K:PySem.W.Frag} {fd:FuncData} {ps:List Str} (h:∀ us:List Value,us.length=ps.length→bindArgs fd ⟨us,[]⟩=pure (ps.zip us)):Binds K fd ps []:=fun s us _ hl=>by
 rw [List.append_nil] at hl ⊢
 exact .of_eq (h us hl)
noncomputable def Passes (CX:CXT) (X:Cx) (E:XK):Prop:=∀ (pins:List (Addr×Obj)) (σ:St) (H:Hp) (s:Shared) (e:Value) (s':Shared),Inv X pins σ H s→CX X.stack H s E e s'→X.xe e s'
section
variable {X:Cx} {CX:CXT} {k:Nat} {f C:Addr} {fd:FuncData} {ps:List Str} {sp:Sp} {dvs:List V} {ds:List Value} {E:XK} {x m:Str} {p pos apos:Pos} {e o:Expr} {es:List Expr} {ta:TE} {t:TA}
theorem run_fn {pins:List (Addr×Obj)} {σ:St} {H:Hp} {s:Shared} {Q:VK} {us:List Value} {vs:List V} (F:FnOk X.prog X.w X.K X.mg X.base CX k f fd ps sp) (hr:Room k X.A) (hb:Binds X.K fd ps ds) (hd:Vals dvs ds) (hx:Passes CX X E)
  (I:Inv X pins σ H s) (r:Vals vs us) (h:sp (vs ++ dvs) H Q E):wpAny (model X.prog X.w) X.A (call (.ref f) us) (EP X pins σ Q) X.xe s:=by
 have r2:Vals (vs ++ dvs) (us ++ ds):=r.append hd
 have hl:(us ++ ds).length=ps.length:=by rw [← r2.length]; exact F.len _ _ _ _ h
 refine wpAny_call (codeAny_mono (F.run X.A X.stack s H ⟨us,[]⟩ (us ++ ds) (vs ++ dvs) Q E hr I.env0 (hb s us I.kIn hl) r2 h) fun r s' hq=>?_)
 cases r with
 | error e=>exact hx pins σ H s e s' I hq
 | ok fl =>
  cases fl with
  | ret u=>exact I.after hq
  | next=>exact False.elim hq
  | brk=>exact False.elim hq
  | cont=>exact False.elim hq
theorem pe_call (F:FnOk X.prog X.w X.K X.mg X.base CX k f fd ps sp) (hr:Room k X.A) (hg:Gl X x) (hm:X.mg x=some (.ref f)) (hk:PySem.W.keepIn X.K (.ref f)=true) (hb:Binds X.K fd ps ds) (hd:Vals dvs ds) (hx:Passes CX X E)
  (ha:PA X (e :: es) t) (hdb:(x == ("__debug__" : Str))=false:=by decide) (he:starEach (e :: es) X.env=(false,eval e X.env) :: starEach es X.env:=by rfl) (hpl:(backTo pos (starEach es X.env)).any (·.1)=false:=by rfl) :
  PE X (.Call (.Name x p) (e :: es) [] pos) (tCall sp dvs E t):=by
 intro pins s σ H Q I h
 refine wpAny_Call_Name_kw (ld_glob I hg hm ?_ hdb)
 refine PySem.W.callWith_K (h₀:=X.base) I.ok.mod.kin hk (thn (ha pos pins s σ H _ I h) fun us s1 ⟨vs,H1,I1,r,q⟩=>⟨I1.kIn,?_⟩) he hpl
 exact run_fn F hr hb hd hx I1 r q
theorem pe_call0 (F:FnOk X.prog X.w X.K X.mg X.base CX k f fd ps sp) (hr:Room k X.A) (hg:Gl X x) (hm:X.mg x=some (.ref f)) (hk:PySem.W.keepIn X.K (.ref f)=true) (hb:Binds X.K fd ps ds) (hd:Vals dvs ds) (hx:Passes CX X E)
  (hdb:(x == ("__debug__" : Str))=false:=by decide):PE X (.Call (.Name x p) [] [] pos) (tCall sp dvs E tNil):=by
 intro pins s σ H Q I h
 refine wpAny_Call_Name_kw (ld_glob I hg hm ?_ hdb)
 exact PySem.W.callWith_K0 I.kIn hk (run_fn (us:=[]) F hr hb hd hx I .nil h)
structure Mk (K:PySem.W.Frag) (C f:Addr):Prop where
 makes:PySem.W.makesIn K C=true
 init:PySem.W.findIn K (.ref C) "__init__" = some (some (.ref f))
 fn:PySem.W.isFn K (.ref f)=true
 kp:PySem.W.keepIn K (.ref C)=true
end
noncomputable def PK (X:Cx) (kws:List Keyword) (t:TA):Prop :=
 ∀ (pos:Pos) (pins:List (Addr×Obj)) (s:Shared) (σ:St) (H:Hp) (Q:List V→Hp→Prop),Inv X pins σ H s→t σ H Q→wpAny (model X.prog X.w) X.A (evalAll ((backToKw pos (keywordEach kws X.env)).map (·.2))) (AP X pins σ Q) X.xe s
section
variable {X:Cx} {CX:CXT} {k:Nat} {f C:Addr} {fd:FuncData} {ps ks:List Str} {sp:Sp} {E:XK} {x m:Str} {p pos apos kpos:Pos} {e o:Expr} {es:List Expr} {kws:List Keyword} {te ta:TE} {t tk:TA} {nm:Option Str}
theorem pk_nil:PK X [] tNil:=fun _ _ _ _ H Q I h=>wpAny_evalAll_nil ⟨[],H,I,.nil,h⟩
theorem pk_cons (ha:PE X e te) (hr:PK X kws t):PK X (⟨nm,e,kpos⟩ :: kws) (tCons te t):=by
 intro pos pins s σ H Q I h
 show wpAny _ _ (evalAll ((do let v ← eval e X.env; standAt pos; pure v) :: (backToKw pos (keywordEach kws X.env)).map (·.2))) _ _ s
 refine wpAny_evalAll_cons (wpAny_bind (thn (ha pins s σ H _ I h) fun u s1 ⟨x,H1,I1,r1,q1⟩=>wpAny_bind (wpAny_standAt (wpAny_pure ?_))))
 exact thn (hr pos pins s1 σ H1 _ I1 q1) fun us s2 ⟨xs,H2,I2,r2,q2⟩=>⟨x :: xs,H2,I2,.cons r1 r2,q2⟩
variable {g:List Value→List Value→List Value} {gV:List V→List V→List V}
end
structure FnScope (N P:List Str) (sc:Scope):Prop where
 kind:sc.kind = .function
 co:sc.isCoroutine=false
 gen:sc.isGenerator=false
 nd:N.Nodup
 pre:N.take P.length=P
 par:∀ x∈P,sc.names.lookup x=some .local∨sc.names.lookup x=some .cell
 nofree:∀ y∈sc.names,y.2≠.free
theorem Ya1 {kindOf:Str→Option NameKind} {x:Str}:∀ {binds:List (Str×Value)} {m:Str→Option Value},(∀ v,(x,v) ∉ binds)→bindL kindOf binds m x=m x
 | [],_,_=>rfl
 | (n,v) :: r,m,h=>by
  unfold bindL
  rw [Ya1 fun w hw=>h w (List.mem_cons_of_mem _ hw)]
  split
  ·have:x≠n:=by rintro rfl; exact h v List.mem_cons_self
   simp [this]
  ·rfl
theorem Wa1 {kindOf:Str→Option NameKind} {x:Str}:∀ {binds:List (Str×Value)} {m:Str→Option Value},(∀ v,(x,v) ∉ binds)→bindC kindOf binds m x=m x
 | [],_,_=>rfl
 | (n,v) :: r,m,h=>by
  unfold bindC
  rw [Wa1 fun w hw=>h w (List.mem_cons_of_mem _ hw)]
  split
  ·rfl
  ·have:x≠n:=by rintro rfl; exact h v List.mem_cons_self
   simp [this]
theorem Xa1 {kindOf:Str→Option NameKind} {x:Str} {v:Value}:∀ {P:List Str} {vs:List Value} {i:Nat} {m:Str→Option Value},P.Nodup→P[i]? = some x→vs[i]? = some v→kindOf x=some .local →
  bindL kindOf (P.zip vs) m x=some v
 | [],_,_,_,_,h,_,_=>by simp at h
 | _ :: _,[],_,_,_,_,h,_=>by simp at h
 | p :: P,w :: vs,0,m,nd,h1,h2,hk=>by
  simp at h1 h2; subst h1; subst h2
  show bindL kindOf ((p,w) :: P.zip vs) m p=_
  unfold bindL
  rw [Ya1 fun v hv=>(List.nodup_cons.mp nd).1 (List.of_mem_zip hv).1,if_pos hk]
  simp
 | p :: P,w :: vs,i + 1,m,nd,h1,h2,hk=>by
  show bindL kindOf ((p,w) :: P.zip vs) m x=_
  unfold bindL
  exact Xa1 (i:=i) (List.nodup_cons.mp nd).2 (by simpa using h1) (by simpa using h2) hk
theorem Va1 {kindOf:Str→Option NameKind} {x:Str} {v:Value}:∀ {P:List Str} {vs:List Value} {i:Nat} {m:Str→Option Value},P.Nodup→P[i]? = some x→vs[i]? = some v→kindOf x≠some .local →
  bindC kindOf (P.zip vs) m x=some v
 | [],_,_,_,_,h,_,_=>by simp at h
 | _ :: _,[],_,_,_,_,h,_=>by simp at h
 | p :: P,w :: vs,0,m,nd,h1,h2,hk=>by
  simp at h1 h2; subst h1; subst h2
  show bindC kindOf ((p,w) :: P.zip vs) m p=_
  unfold bindC
  rw [Wa1 fun v hv=>(List.nodup_cons.mp nd).1 (List.of_mem_zip hv).1,if_neg hk]
  simp
 | p :: P,w :: vs,i + 1,m,nd,h1,h2,hk=>by
  show bindC kindOf ((p,w) :: P.zip vs) m x=_
  unfold bindC
  exact Va1 (i:=i) (List.nodup_cons.mp nd).2 (by simpa using h1) (by simpa using h2) hk
noncomputable def start (N:List Str) (vs:List V):St:=vs.map some ++ List.replicate (N.length - vs.length) none
noncomputable def cxOf (CX:CXT) (P:Program) (w:World) (K:PySem.W.Frag) (mg:Str→Option Value) (base:Heap) (N:List Str) (qual:Str) (scope:Scope) (f:Addr) (cd:Value) (A:Around) (outer:List Env) (s:Shared) (H:Hp) (E:XK):Cx where
 prog:=P
 w:=w
 K:=K
 mg:=mg
 base:=base
 A:=A.deeper (envOfC qual scope s.heap.objs.size f cd)
 N:=N
 s₀:=s
 H₀:=H
 env:=envOfC qual scope s.heap.objs.size f cd
 outer:=outer
 stack:=envOfC qual scope s.heap.objs.size f cd :: outer
 ex:=[]
 calm:=A.handled.isNone
 fn:=fun _=>true
 pn:=[]
 xe:=fun e s'=>wpAny (model P w) (A.deeper (envOfC qual scope s.heap.objs.size f cd)) (leaving (envOfC qual scope s.heap.objs.size f cd) e) (fun _ s''=>CX outer H s E e s'') (fun e' s''=>CX outer H s E e' s'') s'
theorem cell_has {sc:Scope} {n:Nat} {x:Str} (h:sc.names.lookup x=some .cell):∃ c,(cellsFrom n sc.names []).lookup x=some c:=by
 have q:=PySem.W.cellsFrom_some sc.names n [] (.inl h)
 exact Option.isSome_iff_exists.mp q
theorem inv_start {CX:CXT} {P:Program} {w:World} {K:PySem.W.Frag} {mg:Str→Option Value} {base:Heap} {N ps:List Str} {qual:Str} {scope:Scope} {f:Addr} {cd:Value} {A:Around} {outer:List Env} {s s1:Shared} {H:Hp} {E:XK} {us:List Value} {vs:List V}
  (S:FnScope N ps scope) (e0:Env0 P w K mg base A outer s H) (hl:vs.length=ps.length) (r:Vals vs us)
  (x:InCallC s s.heap.objs.size (bindL (envOfC qual scope s.heap.objs.size f cd).kindOf (ps.zip us) fun _=>none) (cellsFrom (s.heap.objs.size + 1) scope.names []) (bindC (envOfC qual scope s.heap.objs.size f cd).kindOf (ps.zip us) fun _=>none) s1) :
  Inv (cxOf CX P w K mg base N qual scope f cd A outer s H E) [] (start N vs) H s1:=by
 have hpl:ps.length≤N.length:=by have:=congrArg List.length S.pre; rw [List.length_take] at this; omega
 obtain ⟨h1,tk,rfl,hk⟩:=x.done
 have noA:∀ b:Addr,b ∉ (cxOf CX P w K mg base N qual scope f cd A outer s H E).ex:=fun b z=>absurd (show b∈([]:List Addr) from z) (by simp)
 refine ⟨⟨e0.mod,S.kind,rfl,rfl,Nat.le_refl _,fun y z c h1 h2=>?_,fun y hy=>?_,fun y c _ h=>?_,fun z=>Option.isNone_iff_eq_none.mp z,Around.frames_deeper e0.frames,.inr ⟨rfl,rfl⟩,fun b z=>absurd z (noA b),e0.bs,e0.bsz,fun b _ _=>noA b,fun b z=>absurd z (noA b),e0.funs,e0.frf⟩,
  rfl,e0.bare,Un.kept hk,⟨_,x.toInCall.ns,fun i y v h1 h2 h3=>?_⟩,fun y c h=>⟨_,x.cell y c h⟩,e0.hok.fresh (Nat.le_refl _),fun y c h=>?_,fun p hp=>absurd (show p∈([]:List (Addr×Obj)) from hp) (by simp),e0.hok.kept hk,?_,e0.hh⟩
 ·exact name_of_addr x.apart (PySem.mem_of_lookup h1) (PySem.mem_of_lookup h2)
 ·have hy:scope.names.lookup y=some .cell∨scope.names.lookup y=some .free:=hy
  rcases hy with hy | hy
  ·exact cell_has hy
  ·exact absurd rfl (S.nofree _ (PySem.mem_of_lookup hy))
 ·exact Nat.le_of_lt (x.above y c (PySem.mem_of_lookup h))
 ·have hi:i < vs.length:=by
   unfold start at h2
   by_cases hi:i < vs.length
   ·exact hi
   ·rw [List.getElem?_append_right (by simpa using hi)] at h2
    rw [List.getElem?_replicate] at h2
    split at h2 <;> cases h2
  have ha:vs[i]? = some v:=by
   unfold start at h2
   rw [List.getElem?_append_left (by simpa using hi),List.getElem?_map] at h2
   cases e:vs[i]? with
   | none=>rw [e] at h2; cases h2
   | some a=>rw [e] at h2; cases h2; rfl
  obtain ⟨u,hu,rv⟩:=r.get ha
  have hp:ps[i]? = some y:=by
   rw [← S.pre,List.getElem?_take_of_lt (by omega)]; exact h1
  have ndP:ps.Nodup:=by rw [← S.pre]; exact S.nd.sublist (List.take_sublist _ _)
  refine ⟨u,rv,?_⟩
  rcases S.par y (List.mem_of_getElem? hp) with k | k
  ·exact .inl ⟨k,Xa1 ndP hp hu k⟩
  ·obtain ⟨c,e⟩:=cell_has (n:=s.heap.objs.size + 1) k
   refine .inr ⟨.inl k,c,e,?_⟩
   have q:=x.cell y c e
   rw [Va1 ndP hp hu (by show scope.names.lookup y≠_; rw [k]; decide)] at q
   exact q
 ·exact e0.hok.fresh (Nat.le_of_lt (x.above y c (PySem.mem_of_lookup h)))
 ·unfold start
  show _=N.length
  rw [List.length_append,List.length_map,List.length_replicate]
  omega
theorem fn_of {CX:CXT} {P:Program} {w:World} {K:PySem.W.Frag} {mg:Str→Option Value} {base:Heap} {k:Nat} {f:Addr} {name qual:Str} {params:Arguments} {body:List Stmt} {scope:Scope} {dV kV doc pm cdv ct oc:Value} {an od:Option Addr}
  {osl:Array (Option Value)} {N ps:List Str} {sp:Sp} (lk:K.lookup f=some ⟨oc,od,.func (PySem.W.fnOf name qual params body scope dV kV doc pm an cdv ct),osl⟩) (hcd:PySem.W.codeIn K cdv qual=true) (S:FnScope N ps scope)
  (len:∀ vs H Q E,sp vs H Q E→vs.length=ps.length)
  (hbody:∀ (A:Around) (outer:List Env) (s:Shared) (H:Hp) (vs:List V) (Q:VK) (E:XK),Room k (A.deeper (envOfC qual scope s.heap.objs.size f cdv))→sp vs H Q E →
   ∃ t,PSs (cxOf CX P w K mg base N qual scope f cdv A outer s H E) body t∧t { nx:=fun _ H'=>Q .non H',rt:=Q } (start N vs) H) :
  FnOk P w K mg base CX (k + 1) f (PySem.W.fnOf name qual params body scope dV kV doc pm an cdv ct) ps sp:=by
 refine ⟨len,fun A outer s H args us vs Q E hr e0 hb r hsp=>?_⟩
 have hl:=len _ _ _ _ hsp
 have KX:K.In s.heap:=e0.mod.kin.keeps fun b o e=>(e0.bs b o e).1
 have lim:s.heap.NoLimit:=e0.mod.nolimit.keeps fun b o e=>(e0.bs b o e).1
 have hkind:∀ y∈ps.zip us,scope.names.lookup y.1=some .local∨(scope.names.lookup y.1=some .cell∧((cellsFrom (s.heap.objs.size + 1) scope.names []).lookup y.1).isSome=true):=fun ⟨n,v⟩ hy=>by
  rcases S.par n (List.of_mem_zip hy).1 with q | q
  ·exact .inl q
  ·exact .inr ⟨q,PySem.W.cellsFrom_some _ _ _ (.inl q)⟩
 refine codeAny_call_function hr.depth (KX _ _ lk) rfl S.co S.gen rfl (PySem.W.codeRec_of KX hcd) (hb _ _ _ _ ?_)
 refine wpAny_newFunctionEnv_cells S.kind hkind fun env he s1 x=>?_
 subst he
 refine ⟨lim.keeps x.toInCall.keep,codeAny_func ?_⟩
 obtain ⟨t,ht,hq⟩:=hbody A outer s H vs Q E (hr.deeper _) hsp
 have I:Inv (cxOf CX P w K mg base N qual scope f cdv A outer s H E) [] (start N vs) H s1:=inv_start S e0 hl r x
 refine wpAny_mono (ht [] s1 (start N vs) H _ I hq) (fun fl s' hs=>?_) fun e s' hs=>hs
 have fin:∀ {σ':St} {H':Hp} {v:V} {u:Value},Inv (cxOf CX P w K mg base N qual scope f cdv A outer s H E) [] σ' H' s'→RelV v u→Q v H'→CE outer P w H s Q u s' :=
  fun {σ' H' v u} J rv q=>⟨v,H',J.os,J.bare,J.base,J.hok,rv,q⟩
 cases fl with
 | ret u =>
  obtain ⟨v,σ',H',J,rv,q⟩:=hs
  exact fin J rv q
 | next =>
  obtain ⟨σ',H',J,q⟩:=hs
  exact fin (v:=V.non) (u:=Value.none) J rfl q
 | brk =>
  obtain ⟨_,_,_,q⟩:=hs
  exact False.elim q
 | cont =>
  obtain ⟨_,_,_,q⟩:=hs
  exact False.elim q
end L2
namespace L2
open PySem PySem.Spec PyProof.Rows
section
variable {X:Cx} {x:Str} {p pos:Pos} {e:Expr} {es:List Expr} {t:TA} {id T:String} {r:List V→Hp→VK→Prop}
noncomputable def tCB (r:List V→Hp→VK→Prop) (t:TA):TE:=fun σ H Q=>t σ H fun vs H1=>r vs H1 Q
theorem Yj (hc:CallR X (.builtin id) r) (hg:Gl X x) (hm:X.mg x=none) (hv:bootBuiltins x=some (.builtin id)) (ha:PA X (e :: es) t) (hn:x≠"__name__":=by decide) (hdb:(x == ("__debug__" : Str))=false:=by decide)
  (he:starEach (e :: es) X.env=(false,eval e X.env) :: starEach es X.env:=by rfl) (hpl:(backTo pos (starEach es X.env)).any (·.1)=false:=by rfl):PE X (.Call (.Name x p) (e :: es) [] pos) (tCB r t):=by
 intro pins s σ H Q I h
 refine wpAny_Call_Name_kw (Wr I hg hm hv ?_ hn hdb)
 exact PyProof.Rows.callWith_builtin1 (thn (ha pos pins s σ H _ I h) fun us s1 ⟨vs,H1,I1,r1,q1⟩=>hc pins s1 σ H1 vs us Q I1 r1 q1) he hpl
theorem Wu (hc:CallR X (.type T) r) (hg:Gl X x) (hm:X.mg x=none) (hv:bootBuiltins x=some (.type T)) (ha:PA X (e :: es) t) (hn:x≠"__name__":=by decide) (hdb:(x == ("__debug__" : Str))=false:=by decide)
  (he:starEach (e :: es) X.env=(false,eval e X.env) :: starEach es X.env:=by rfl) (hpl:(backTo pos (starEach es X.env)).any (·.1)=false:=by rfl):PE X (.Call (.Name x p) (e :: es) [] pos) (tCB r t):=by
 intro pins s σ H Q I h
 refine wpAny_Call_Name_kw (Wr I hg hm hv ?_ hn hdb)
 exact PyProof.Rows.callWith_type1 (thn (ha pos pins s σ H _ I h) fun us s1 ⟨vs,H1,I1,r1,q1⟩=>hc pins s1 σ H1 vs us Q I1 r1 q1) he hpl
end
end L2
namespace HT
open PySem PyProof.Rows
section
open PySem.SeqAt
open PySem.AutoSeq1 (wpAny_loadPart')
open PySem.MeetsSeq PySem.MeetsSeq2 PySem.MeetsSeq3
end
section
variable {prog:Program} {w:World} {A:Around} {E:Value→Shared→Prop} {s:Shared}
theorem cat_tup {t b:Addr} {vs ws:List Value} {Q:Value→Shared→Prop} (ht:IsTup s.heap t vs.toArray) (hb:IsTup s.heap b ws.toArray) (hv:vs≠[])
  (h1:ws=[]→Q (.ref t) s) (h2:ws≠[]→Q (.ref s.heap.objs.size) { s with heap:=s.heap.push { cls:=.type "tuple",data:=.seq (vs ++ ws).toArray } })
  (hsz:vs.length + ws.length≤sizeLine):wpAny (model prog w) A (binaryOp .Add (.ref t) (.ref b)) Q E s:=by
 obtain ⟨⟨cls,dd,data,sl⟩,ho,hc,n,hd⟩:=id ht
 obtain ⟨⟨cls2,dd2,data2,sl2⟩,ho2,hc2,n2,hd2⟩:=id hb
 simp only at hc hd hc2 hd2
 subst hc hd hc2 hd2
 have e:vs.toArray ++ ws.toArray=(vs ++ ws).toArray:=by simp
 by_cases hw:ws=[]
 ·exact concat_meets ⟨_,ho,rfl⟩ ⟨_,ho2,rfl⟩ noFill_tuple_add seq_tuple_add PySem.F.slot_tuple_add PySem.F.entry_tuple_add (PySem.F.args_tuple_add_2 _ _)
   (tuple_addW1 t b vs.toArray ws.toArray n n2 dd dd2 sl sl2 (by simpa using hv) (by simp [hw])) ⟨ho,ho2,h1 hw⟩
 ·refine concat_meets ⟨_,ho,rfl⟩ ⟨_,ho2,rfl⟩ noFill_tuple_add seq_tuple_add PySem.F.slot_tuple_add PySem.F.entry_tuple_add (PySem.F.args_tuple_add_2 _ _)
   (tuple_addW2 t b vs.toArray ws.toArray n n2 dd dd2 sl sl2 (by simpa using hv) (by simpa using hw) (by rw [List.size_toArray,List.size_toArray]; exact hsz)) ⟨ho,ho2,?_⟩
  rw [e]
  exact h2 hw
noncomputable def sIx (n d:Nat):Option Int→Nat
 | none=>d
 | some v=>if v < 0 then (v + (n:Int)).toNat else min v.toNat n
theorem sIx_le (n d:Nat) (hd:d≤n) (o:Option Int):sIx n d o≤n:=by
 cases o with
 | none=>exact hd
 | some v =>
  show (if v < 0 then (v + (n:Int)).toNat else min v.toNat n)≤n
  by_cases hv:v < 0
  ·rw [if_pos hv]; omega
  ·rw [if_neg hv]; exact Nat.min_le_right _ _
theorem clip_eq (v:Int) (n d:Nat):(if v < 0 then max (v + (n:Int)) 0 else min v (n:Int))=((sIx n d (some v):Nat):Int):=by
 show (if v < 0 then max (v + (n:Int)) 0 else min v (n:Int))=(((if v < 0 then (v + (n:Int)).toNat else min v.toNat n):Nat):Int)
 by_cases hv:v < 0
 ·simp only [if_pos hv]; omega
 ·simp only [if_neg hv]; omega
theorem adjust_gen (lo hi:Option Int) (n:Nat):Builtin.Slice.sliceAdjust lo hi 1 (n:Int)=(((sIx n 0 lo:Nat):Int),((sIx n n hi:Nat):Int)):=by
 have h1:¬ ((1:Int) < 0):=by omega
 unfold Builtin.Slice.sliceAdjust
 simp only [h1,if_false]
 refine Prod.ext ?_ ?_
 ·cases lo with
  | none=>rfl
  | some v=>exact clip_eq v n 0
 ·cases hi with
  | none=>rfl
  | some v=>exact clip_eq v n n
theorem places_gen (i j:Nat):Builtin.Slice.slicePlaces (i:Int) (j:Int) 1=j - i:=by
 unfold Builtin.Slice.slicePlaces
 have h1:(1:Int) > 0:=by omega
 simp only [h1,if_true,Int.ediv_one]
 split <;> omega
theorem Xae {v:Value} {o:Option Int} {Q:Option Int→Shared→Prop} (p:IsPart v o) (h:Q o s):wpAny (model prog w) A (Builtin.Slice.slicePartIndex v) Q E s:=by
 cases p with
 | none=>exact slicePart_none h
 | int i t=>exact slicePart_int h
theorem sliceApplied_gen {sl:Addr} {vl vu:Value} {lo hi:Option Int} {n:Nat} {Q:Int×Int×Nat→Shared→Prop} (hs:s.heap.IsSliceOf sl vl vu .none) (pl:IsPart vl lo) (pu:IsPart vu hi)
  (h:Q (((sIx n 0 lo:Nat):Int),1,sIx n n hi - sIx n 0 lo) s):wpAny (model prog w) A (Builtin.Slice.sliceApplied (.ref sl) (pure (n:Int))) Q E s:=by
 obtain ⟨os,hos,hcs,hds⟩:=id hs
 unfold Builtin.Slice.sliceApplied Builtin.Slice.sliceFields
 refine wpAny_bind (wpAny_bind (wpAny_field hos hds (x:=vl) rfl (wpAny_bind (wpAny_field hos hds (x:=vu) rfl (wpAny_bind (wpAny_field hos hds (x:=.none) rfl (wpAny_pure ?_)))))))
 refine wpAny_bind (slicePart_none ?_)
 show wpAny _ _ (if ((1:Int) == 0)=true then _ else _) _ _ s
 rw [if_neg (by decide)]
 refine wpAny_bind (Xae pl (wpAny_bind (Xae pu (wpAny_bind (wpAny_pure ?_)))))
 show wpAny _ _ (match Builtin.Slice.sliceAdjust lo hi 1 (n:Int) with | (lo,hi)=>pure (lo,(1:Int),Builtin.Slice.slicePlaces lo hi 1)) _ _ s
 rw [adjust_gen lo hi n]
 show wpAny _ _ (pure (((sIx n 0 lo:Nat):Int),(1:Int),Builtin.Slice.slicePlaces ((sIx n 0 lo:Nat):Int) ((sIx n n hi:Nat):Int) 1)) _ _ s
 rw [places_gen]
 exact wpAny_pure h
theorem pick_gen (xs:Array Value) (i k:Nat):((List.range k).filterMap fun (m:Nat)=>xs[((i:Int) + (m:Int) * 1).toNat]?).toArray=((xs.toList.drop i).take k).toArray:=by
 have e:(fun (m:Nat)=>xs[((i:Int) + (m:Int) * 1).toNat]?)=fun m=>xs[i + m]?:=by
  funext m
  have:((i:Int) + (m:Int) * 1).toNat=i + m:=by omega
  rw [this]
 rw [e]
 have:=pick_run xs i k
 rw [List.filterMap_map] at this
 have e2:((fun x=>xs[x]?) ∘ fun x=>i + x)=fun m=>xs[i + m]?:=rfl
 rw [e2] at this
 rw [this]
theorem getItem_tuple_cut {t sl:Addr} {items:Array Value} {vl vu:Value} {lo hi:Option Int} {Q:Value→Shared→Prop} (ht:IsTup s.heap t items) (hs:s.heap.IsSliceOf sl vl vu .none) (pl:IsPart vl lo) (pu:IsPart vu hi)
  (hw:¬ (sIx items.size 0 lo=0∧sIx items.size items.size hi=items.size))
  (h:Q (.ref s.heap.objs.size) { s with heap:=s.heap.push { cls:=.type "tuple",data:=.seq ((items.toList.drop (sIx items.size 0 lo)).take (sIx items.size items.size hi - sIx items.size 0 lo)).toArray } })
  (hsz:items.size≤sizeLine):wpAny (model prog w) A (getItem (.ref t) (.ref sl)) Q E s:=by
 have htake:sizeOk (.seq ((items.toList.drop (sIx items.size 0 lo)).take (sIx items.size items.size hi - sIx items.size 0 lo)).toArray):=by
  show ((items.toList.drop (sIx items.size 0 lo)).take (sIx items.size items.size hi - sIx items.size 0 lo)).toArray.size≤sizeLine
  rw [List.size_toArray,List.length_take,List.length_drop,Array.length_toList]
  omega
 have hj:sIx items.size items.size hi≤items.size:=sIx_le _ _ (Nat.le_refl _) hi
 obtain ⟨os,hos,hcs,hds⟩:=id hs
 have hTs:s.TypeIs (.ref sl) "slice":=⟨os,hos,hcs⟩
 unfold getItem
 try with_reducible refine wpAny_holding ?_
 first | refine wpAny_bind (wpAny_pure ?_) | skip
 refine wpAny_bind (wpAny_sequenceKey ht.typeIs (by decide) ?_)
 refine wpAny_bind (wpAny_callSpecial?_slot (name:=Str.ofString "__getitem__") ht.typeIs PyProof.Rows.slot_tuple_getitem
  (wpAny_call_entry PyProof.Rows.slot_tuple_getitem ht.typeIs entry_tuple_getitem ?_ (args_tuple_getitem _ _)))
 show wpAny _ _ (Builtin.Tuple.tupleItemsOf (.ref t) >>= _) _ _ s
 refine wpAny_bind (tupleItemsOf_ ht ?_)
 refine wpAny_bind (wpAny_typeOf hTs ?_)
 rw [if_pos (by decide)]
 refine wpAny_bind (sliceApplied_gen hs pl pu ?_)
 have hno:¬ ((((sIx items.size 0 lo:Nat):Int) == 0 && (1:Int) == 1 && (sIx items.size items.size hi - sIx items.size 0 lo) == items.size)=true):=by
  intro q
  rw [Bool.and_eq_true,Bool.and_eq_true] at q
  have q1:((sIx items.size 0 lo:Nat):Int)=0:=eq_of_beq q.1.1
  have q2:sIx items.size items.size hi - sIx items.size 0 lo=items.size:=eq_of_beq q.2
  exact hw ⟨by omega,by omega⟩
 show wpAny _ _ (if (((sIx items.size 0 lo:Nat):Int) == 0 && (1:Int) == 1 && (sIx items.size items.size hi - sIx items.size 0 lo) == items.size)=true then _ else _) _ _ s
 rw [if_neg hno,pick_gen]
 first
  | exact wpAny_bind (m:=Builtin.Tuple.tupleExact _) (wpAny_newObj_type (wpAny_pure ⟨_,rfl,wpAny_pure h⟩) htake)
  | exact wpAny_bind (m:=Builtin.Tuple.tupleExact _) (wpAny_newObj_type (wpAny_bind (wpAny_pure (wpAny_pure ⟨_,rfl,wpAny_pure h⟩))) htake)
  | exact wpAny_bind (wpAny_bind (m:=Builtin.Tuple.tupleExact _) (wpAny_newObj_type (wpAny_pure (wpAny_pure ⟨_,rfl,wpAny_pure h⟩)) htake))
  | exact wpAny_bind (wpAny_bind (m:=Builtin.Tuple.tupleExact _) (wpAny_newObj_type (wpAny_pure ⟨_,rfl,wpAny_pure h⟩) htake))
end
end HT
namespace L2
open PySem PySem.Spec PyProof.Rows
noncomputable abbrev TO:=St→Hp→(Option Int→Hp→Prop)→Prop
noncomputable def PO (X:Cx) (e:Option Expr) (t:TO):Prop :=
 ∀ (pins:List (Addr×Obj)) (s:Shared) (σ:St) (H:Hp) (Q:Option Int→Hp→Prop),Inv X pins σ H s→t σ H Q →
  wpAny (model X.prog X.w) X.A (evalPart e X.env) (fun u s'=>∃ o H',Inv X pins σ H' s'∧IsPart u o∧Q o H') X.xe s
noncomputable def tNoPart:TO:=fun _ H Q=>Q none H
noncomputable def tPart (t:TE):TO:=fun σ H Q=>t σ H fun x H1=>∃ i,x = .int i∧Q (some i) H1
section
variable {X:Cx} {e:Expr} {te:TE} {lo hi:Option Expr} {tl th:TO} {pos p2:Pos}
theorem po_none:PO X none tNoPart:=by
 intro pins s σ H Q I h
 rw [evalPart_none]
 exact wpAny_pure ⟨none,H,I,.none,h⟩
theorem po_some (h:PE X e te):PO X (some e) (tPart te):=by
 intro pins s σ H Q I hw
 rw [evalPart_some]
 refine thn (h pins s σ H _ I hw) fun u s1 ⟨x,H1,I1,r1,q1⟩=>?_
 obtain ⟨i,rfl,q⟩:=q1
 obtain ⟨t,rfl⟩:=r1
 exact ⟨some i,H1,I1,.int i t,q⟩
noncomputable def SlR (X:Cx) (r:V→Option Int→Option Int→Hp→VK→Prop):Prop :=
 ∀ (pins:List (Addr×Obj)) (s:Shared) (σ:St) (H:Hp) (x:V) (v vl vu:Value) (lo hi:Option Int) (sl:Addr) (Q:VK),Inv X pins σ H s→RelV x v→s.heap.IsSliceOf sl vl vu .none→IsPart vl lo→IsPart vu hi→r x lo hi H Q →
  ∃ T id,typeLookup (.type T) "__getitem__" = pure (some (.builtin id))∧s.TypeIs v T∧wpAny (model X.prog X.w) X.A (getItem v (.ref sl)) (EP X pins σ Q) X.xe s
theorem SlR.or {r r':V→Option Int→Option Int→Hp→VK→Prop} (h:SlR X r) (h':SlR X r'):SlR X (fun x lo hi H Q=>r x lo hi H Q∨r' x lo hi H Q):=by
 intro pins s σ H x v vl vu lo hi sl Q I rx hs pl pu q
 rcases q with q | q
 ·exact h pins s σ H x v vl vu lo hi sl Q I rx hs pl pu q
 ·exact h' pins s σ H x v vl vu lo hi sl Q I rx hs pl pu q
noncomputable def tSl (r:V→Option Int→Option Int→Hp→VK→Prop) (te:TE) (tl th:TO):TE:=fun σ H Q=>te σ H fun x H1=>tl σ H1 fun l H2=>th σ H2 fun u H3=>r x l u H3 Q
theorem pe_slice {r:V→Option Int→Option Int→Hp→VK→Prop} (hr:SlR X r) (he:PE X e te) (hl:PO X lo tl) (hu:PO X hi th):PE X (.Subscript e (.Slice lo hi none p2) pos) (tSl r te tl th):=by
 intro pins s σ H Q I h
 refine Subscript_ (thn (he pins s σ H _ I h) fun v s1 ⟨x,H1,I1,r1,q1⟩=>?_)
 refine wpAny_Slice (thn (hl pins s1 σ H1 _ I1 q1) fun vl s2 ⟨l,H2,I2,pl,q2⟩=>thn (hu pins s2 σ H2 _ I2 q2) fun vu s3 ⟨u,H3,I3,pu,q3⟩=>?_)
 rw [evalPart_none]
 refine wpAny_pure ?_
 have I4:Inv X pins σ H3 { s3 with heap:=s3.heap.push { cls:=.type "slice",data:=.fields #[vl,vu,.none] } }:=I3.kept (t':=s3.toks) fun b ob q=>Heap.get?_push_of_some _ q
 obtain ⟨T,id,hT,ht,hg⟩:=hr pins { s3 with heap:=s3.heap.push { cls:=.type "slice",data:=.fields #[vl,vu,.none] } } σ H3 x v vl vu l u s3.heap.objs.size Q I4 r1 (Heap.IsSliceOf.new ..) pl pu q3
 show wpAny (model X.prog X.w) X.A (subscriptTail e (.Slice lo hi none p2) v (.ref s3.heap.objs.size)) (EP X pins σ Q) X.xe { s3 with heap:=s3.heap.push { cls:=.type "slice",data:=.fields #[vl,vu,.none] } }
 exact tail_any (ops:=[.ref s3.heap.objs.size,v]) ht hT hg (by with_unfolding_all rfl)
noncomputable def cutV (xs:List V) (lo hi:Option Int):List V:=(xs.drop (HT.sIx xs.length 0 lo)).take (HT.sIx xs.length xs.length hi - HT.sIx xs.length 0 lo)
theorem Yac (xs:List V) (lo hi:Option Int):(cutV xs lo hi).length≤xs.length:=by
 unfold cutV
 rw [List.length_take,List.length_drop]
 omega
noncomputable def rSlT (K:PySem.W.Frag):V→Option Int→Option Int→Hp→VK→Prop:=fun x lo hi H Q=>∃ a xs,x = .ref a∧SqT K H a xs ∧
 ¬ (HT.sIx xs.length 0 lo=0∧HT.sIx xs.length xs.length hi=xs.length)∧∀ p,H p=none→Q (.ref p) (upd H p (.tup (cutV xs lo hi)))
theorem sl_tup:SlR X (rSlT X.K):=by
 intro pins s σ H x v vl vu lo hi sl Q I rx hs pl pu h
 obtain ⟨a,xs,rfl,hx,hw,q⟩:=h
 cases rx
 obtain ⟨its,r,ht,hz⟩:=I.tuple hx
 have hlen:its.toArray.size=xs.length:=by rw [List.size_toArray]; exact r.length.symm
 refine ⟨"tuple",_,PyProof.Rows.slot_tuple_getitem.lookup,ht.typeIs,?_⟩
 refine HT.getItem_tuple_cut ht hs pl pu (by rw [hlen]; exact hw) ?_ (by rw [hlen]; exact hz)
 rw [hlen]
 refine ⟨.ref s.heap.objs.size,_,I.laid (t':=s.toks) (o:=.tup (cutV xs lo hi)) (fun b ob q=>Heap.get?_push_of_some _ q) (Nat.le_refl _) ?_,rfl,q _ (I.hok.fresh (Nat.le_refl _))⟩
 exact ⟨Nat.le_trans (Yac xs lo hi) hz,_,(r.drop (HT.sIx xs.length 0 lo)).take (HT.sIx xs.length xs.length hi - HT.sIx xs.length 0 lo),IsTupN.new _ _⟩
noncomputable def rCatT (K:PySem.W.Frag):R2:=fun x y H Q=>∃ a b xs ys,x = .ref a∧y = .ref b∧SqT K H a xs∧SqT K H b ys∧xs≠[]∧xs.length + ys.length≤sizeLine ∧
 (ys=[]→Q (.ref a) H)∧(ys≠[]→∀ p,H p=none→Q (.ref p) (upd H p (.tup (xs ++ ys))))
theorem Vals.nil_iff {xs:List V} {us:List Value} (r:Vals xs us):us=[]↔xs=[]:=by
 cases r with
 | nil=>simp
 | cons _ _=>simp
theorem op_catT:OpR X (binaryOp .Add) (rCatT X.K):=by
 intro pins s σ H x y v u Q I rx ry h
 obtain ⟨a,b,xs,ys,rfl,rfl,ha,hb,hx,hz,q1,q2⟩:=h
 cases rx
 cases ry
 obtain ⟨its,r1,p1,_⟩:=I.tuple ha
 obtain ⟨its2,r2,p2,_⟩:=I.tuple hb
 refine HT.cat_tup p1 p2 (fun z=>hx (r1.nil_iff.mp z)) (fun z=>⟨.ref a,H,I,rfl,q1 (r2.nil_iff.mp z)⟩) (fun z=>?_) (by rw [← r1.length,← r2.length]; exact hz)
 refine ⟨.ref s.heap.objs.size,_,I.laid (t':=s.toks) (o:=.tup (xs ++ ys)) (fun b ob q=>Heap.get?_push_of_some _ q) (Nat.le_refl _) ?_,rfl,q2 (fun w=>z (r2.nil_iff.mpr w)) _ (I.hok.fresh (Nat.le_refl _))⟩
 exact ⟨by rw [List.length_append]; exact hz,_,r1.append r2,IsTupN.new _ _⟩
end
end L2
namespace L2
open PySem PySem.Spec PyProof.Rows
noncomputable def ixN (n:Nat) (i:Int):Option Nat:=if 0≤i then (if i < n then some i.toNat else none) else if -(n:Int)≤i then some (i + n).toNat else none
noncomputable def atI {α:Type} (xs:List α) (i:Int):Option α:=(ixN xs.length i).bind fun j=>xs[j]?
theorem ixN_seq {n:Nat} {i:Int} {j:Nat} (h:ixN n i=some j):seqIndex? i n=some j∧j < n∧-(n:Int)≤i∧i < n:=by
 unfold ixN at h
 by_cases h0:0≤i
 ·rw [if_pos h0] at h
  by_cases h1:i < n
  ·rw [if_pos h1] at h
   have e:i.toNat=j:=Option.some.inj h
   exact ⟨by rw [seqIndex_of h0 h1,e],by omega,by omega,h1⟩
  ·rw [if_neg h1] at h; cases h
 ·rw [if_neg h0] at h
  by_cases h1 : -(n:Int)≤i
  ·rw [if_pos h1] at h
   have e:(i + n).toNat=j:=Option.some.inj h
   exact ⟨by rw [seqIndex_neg (by omega) h1,e],by omega,h1,by omega⟩
  ·rw [if_neg h1] at h; cases h
theorem Va9 {α:Type} {xs:List α} {i:Int} {v:α} (h:atI xs i=some v):∃ j,seqIndex? i xs.length=some j∧xs[j]? = some v∧j < xs.length∧-(xs.length:Int)≤i∧i < xs.length:=by
 unfold atI at h
 cases e:ixN xs.length i with
 | none=>rw [e] at h; cases h
 | some j =>
  rw [e] at h
  obtain ⟨h1,h2,h3,h4⟩:=ixN_seq e
  exact ⟨j,h1,h,h2,h3,h4⟩
noncomputable def PlainIx (b:Expr):Prop:=∀ o i,subscripted b false o i=operate [o,i] (getItem o i)
noncomputable def IxR (X:Cx) (r:R2):Prop :=
 ∀ (value slice:Expr) (pins:List (Addr×Obj)) (s:Shared) (σ:St) (H:Hp) (x y:V) (v u:Value) (Q:VK),Inv X pins σ H s→RelV x v→RelV y u→r x y H Q →
  subscripted slice false v u=operate [v,u] (getItem v u)→wpAny (model X.prog X.w) X.A (subscriptTail value slice v u) (EP X pins σ Q) X.xe s
noncomputable def MtR (X:Cx) (id:String) (r:V→List V→Hp→VK→Prop):Prop :=
 ∀ (pins:List (Addr×Obj)) (s:Shared) (σ:St) (H:Hp) (x:V) (xs:List V) (v:Value) (us:List Value) (Q:VK),Inv X pins σ H s→RelV x v→Vals xs us→r x xs H Q →
  wpAny (model X.prog X.w) X.A (call (.builtin id) (v :: us)) (EP X pins σ Q) X.xe s
section
variable {X:Cx} {a b:Expr} {ta tb:TE} {pos:Pos}
theorem IxR.or {r r':R2} (h:IxR X r) (h':IxR X r'):IxR X (fun x y H Q=>r x y H Q∨r' x y H Q):=by
 intro value slice pins s σ H x y v u Q I rx ry q hs
 rcases q with q | q
 ·exact h value slice pins s σ H x y v u Q I rx ry q hs
 ·exact h' value slice pins s σ H x y v u Q I rx ry q hs
theorem MtR.or {id:String} {r r':V→List V→Hp→VK→Prop} (h:MtR X id r) (h':MtR X id r'):MtR X id (fun x xs H Q=>r x xs H Q∨r' x xs H Q):=by
 intro pins s σ H x xs v us Q I rx rs q
 rcases q with q | q
 ·exact h pins s σ H x xs v us Q I rx rs q
 ·exact h' pins s σ H x xs v us Q I rx rs q
theorem pe_ix {r:R2} (hr:IxR X r) (ha:PE X a ta) (hb:PE X b tb) (hs:PlainIx b):PE X (.Subscript a b pos) (tOp r ta tb):=by
 intro pins s σ H Q I h
 exact Subscript_ (binT ha hb I h fun v u s2 x y H2 I2 rx ry q=>hr a b pins s2 σ H2 x y v u Q I2 rx ry q (hs _ _))
noncomputable def rIxL (K:PySem.W.Frag):R2:=fun x y H Q=>∃ p xs i v,x = .ref p∧y = .int i∧SqL K H p xs∧atI xs i=some v∧Q v H
noncomputable def rIxT (K:PySem.W.Frag):R2:=fun x y H Q=>∃ p xs i v,x = .ref p∧y = .int i∧SqT K H p xs∧atI xs i=some v∧Q v H
noncomputable def rIxS:R2:=fun x y H Q=>∃ z i c,x = .str z∧y = .int i∧z.length≤sizeLine∧atI z.cps.toList i=some c∧Q (.str ⟨#[c]⟩) H
theorem ix_list:IxR X (rIxL X.K):=by
 intro value slice pins s σ H x y v u Q I rx ry h hs
 obtain ⟨p,xs,i,z,rfl,rfl,hq,he,q⟩:=h
 cases rx
 obtain ⟨t,rfl⟩:=ry
 obtain ⟨its,r,pl,hz⟩:=I.list hq
 obtain ⟨j,h1,h2,h3,h4,h5⟩:=Va9 he
 obtain ⟨w,ew,rw'⟩:=r.get h2
 have hl:=r.length
 have hn:=V9
 have fin:EP X pins σ Q w s:=⟨z,H,I,rw',q⟩
 by_cases h0:0≤i
 ·have hj:i.toNat=j:=by
   rw [seqIndex_of h0 h5] at h1
   exact Option.some.inj h1
  exact item_listR pl.isList h0 (by omega) (by rw [hj]; simpa using ew) fin hs
 ·have hj:(i + (its.toArray.size:Int)).toNat=j:=by
   rw [seqIndex_neg (by omega) h4] at h1
   rw [List.size_toArray,← hl]
   exact Option.some.inj h1
  exact subscriptTail_builtinR (x:=w) pl.isList.typeIs slot_list_getitem.lookup
   (wpAny_getItem_list_neg (Q:=fun r s'=>r=w∧EP X pins σ Q r s') pl.isList (by omega) (by rw [List.size_toArray] <;> omega) (by omega) (by rw [hj]; simpa using ew) ⟨rfl,fin⟩) hs
theorem ix_tup:IxR X (rIxT X.K):=by
 intro value slice pins s σ H x y v u Q I rx ry h hs
 obtain ⟨p,xs,i,z,rfl,rfl,hq,he,q⟩:=h
 cases rx
 obtain ⟨t,rfl⟩:=ry
 obtain ⟨its,r,pl,hz⟩:=I.tuple hq
 obtain ⟨j,h1,h2,h3,h4,h5⟩:=Va9 he
 obtain ⟨w,ew,rw'⟩:=r.get h2
 have hl:=r.length
 have hn:=V9
 have fin:EP X pins σ Q w s:=⟨z,H,I,rw',q⟩
 exact subscriptTail_builtinR (x:=w) pl.typeIs slot_tuple_getitem.lookup
  (getItem_tuple (j:=j) (Q:=fun r s'=>r=w∧EP X pins σ Q r s') pl (by omega) (by omega) (by rw [List.size_toArray,← hl]; exact h1) (by simpa using ew) ⟨rfl,fin⟩) hs
theorem ix_str:IxR X rIxS:=by
 intro value slice pins s σ H x y v u Q I rx ry h hs
 obtain ⟨z,i,c,rfl,rfl,hz,he,q⟩:=h
 obtain ⟨t,rfl⟩:=rx
 obtain ⟨t',rfl⟩:=ry
 obtain ⟨j,h1,h2,h3,h4,h5⟩:=Va9 he
 have hl:z.cps.toList.length=z.length:=by simp [Str.length]
 rw [hl] at h1 h4 h5
 have hn:=V9
 exact tail_any (typeIs_str s z t) slot_str_getitem.lookup (getItem_str (c:=c) (by
  have e1:decide (i < -(2 ^ 63:Int))=false:=decide_eq_false (by omega)
  have e2:decide (i ≥ 2 ^ 63)=false:=decide_eq_false (by omega)
  rw [e1,e2,Bool.or_false]) (by rw [h1]; simpa using h2) ⟨.str ⟨#[c]⟩,H,I.tok _,⟨_,rfl⟩,q⟩) hs
theorem mapSeq_set (its:List Value) (n j:Nat) (u:Value):Obj.mapSeq (·.setIfInBounds j u) { cls:=.type "list",data:=.seq its.toArray n }={ cls:=.type "list",data:=.seq (its.set j u).toArray n }:=by
 simp [Obj.mapSeq]
theorem Inv.lst {pins:List (Addr×Obj)} {σ:St} {H:Hp} {s:Shared} {p:Addr} {xs:List V} (I:Inv X pins σ H s) (h:H p=some (.lst xs)) :
  ∃ (its:List Value) (n:Nat),Vals xs its∧s.heap.get? p=some { cls:=.type "list",data:=.seq its.toArray n }∧xs.length≤sizeLine:=by
 obtain ⟨z,its,n,r,e⟩:=I.hok p _ h
 exact ⟨its,n,r,e,z⟩
theorem Inv.lstUpd {pins:List (Addr×Obj)} {σ:St} {H:Hp} {s:Shared} {p:Addr} {xs ys:List V} {its its':List Value} {n n':Nat} {f:Obj→Obj} (I:Inv X pins σ H s) (h:H p=some (.lst xs))
  (ho:s.heap.get? p=some { cls:=.type "list",data:=.seq its.toArray n }) (hf:f { cls:=.type "list",data:=.seq its.toArray n }={ cls:=.type "list",data:=.seq its'.toArray n' }) (r:Vals ys its') (hz:ys.length≤sizeLine) (t:Nat) :
  Inv X pins σ (upd H p (.lst ys)) { s with heap:=s.heap.update p f,toks:=t }:=by
 have e:(s.heap.update p f).get? p=some { cls:=.type "list",data:=.seq its'.toArray n' }:=by
  rw [Heap.get?_update_self f ho (by rw [hf] <;> rfl),hf]
 refine I.write (x:=p) (e:=p) (by rw [h]; trivial) (.inl rfl) (fun b u hb q=>(Heap.get?_update_other _ _ (Ne.symm hb)).trans q) ⟨_,e⟩ ?_
 exact ⟨hz,its',n',r,e⟩
noncomputable def rSetL:V→V→V→Hp→(Hp→Prop)→Prop:=fun o i v H Q=>∃ p xs k j,o = .ref p∧i = .int k∧H p=some (.lst xs)∧ixN xs.length k=some j∧Q (upd H p (.lst (xs.set j v)))
theorem set_list:PSet X rSetL:=by
 intro pins s σ H o i v ov iv u Q I ro ri rv h
 obtain ⟨p,xs,k,j,rfl,rfl,hp,hj,q⟩:=h
 cases ro
 obtain ⟨t,rfl⟩:=ri
 obtain ⟨its,n,r,ho,hz⟩:=I.lst hp
 obtain ⟨h1,h2,h3,h4⟩:=ixN_seq hj
 have hl:=r.length
 have hn:=V9
 have I':Inv X pins σ (upd H p (.lst (xs.set j v))) { s with heap:=s.heap.update p (Obj.mapSeq (·.setIfInBounds j u)) } :=
  I.lstUpd hp ho (mapSeq_set its n j u) (r.set rv j) (by rw [List.length_set]; exact hz) s.toks
 by_cases h0:0≤k
 ·have hk:k.toNat=j:=by
   rw [seqIndex_of h0 h4] at h1
   exact Option.some.inj h1
  exact PySem.W.ki_setAt ho h0 (by omega) (by rw [List.size_toArray,← hl]; exact h4) (by rw [hk]; exact ⟨_,I',q⟩)
 ·have hk:(k + (its.toArray.size:Int)).toNat=j:=by
   rw [seqIndex_neg (by omega) h3] at h1
   rw [List.size_toArray,← hl]
   exact Option.some.inj h1
  exact PySem.W.ki_setBack ho (by omega) (by rw [List.size_toArray,← hl]; exact h3) (by omega) (by rw [hk]; exact ⟨_,I',q⟩)
theorem Zau (lo hi:Option Int) (n:Nat):(sliceBounds lo hi none n).1=((HT.sIx n 0 lo:Nat):Int)∧(sliceBounds lo hi none n).2.1=((HT.sIx n n hi:Nat):Int)∧(sliceBounds lo hi none n).2.2=1:=by
 refine ⟨?_,?_,rfl⟩
 ·cases lo with
  | none=>simp [sliceBounds,HT.sIx]
  | some i =>
   simp only [sliceBounds,HT.sIx,Option.getD_none,show (1:Int) > 0 by decide,if_true]
   by_cases h:i < 0
   ·simp only [h,if_true] <;> omega
   ·simp only [h,if_false] <;> omega
 ·cases hi with
  | none=>simp [sliceBounds,HT.sIx]
  | some i =>
   simp only [sliceBounds,HT.sIx,Option.getD_none,show (1:Int) > 0 by decide,if_true]
   by_cases h:i < 0
   ·simp only [h,if_true] <;> omega
   ·simp only [h,if_false] <;> omega
theorem Waj (its:List Value) (lo hi:Option Int):slicePick its.toArray lo hi none=((its.drop (HT.sIx its.length 0 lo)).take (HT.sIx its.length its.length hi - HT.sIx its.length 0 lo)).toArray:=by
 obtain ⟨h1,h2,h3⟩:=Zau lo hi its.toArray.size
 unfold slicePick
 rw [h1,h2,h3]
 simp only [sliceRange_one,pick_run,List.size_toArray] <;> rfl
noncomputable def rSlL (K:PySem.W.Frag):V→Option Int→Option Int→Hp→VK→Prop:=fun x lo hi H Q=>∃ a xs,x = .ref a∧SqL K H a xs∧∀ p,H p=none→Q (.ref p) (upd H p (.lst (cutV xs lo hi)))
theorem sl_list:SlR X (rSlL X.K):=by
 intro pins s σ H x v vl vu lo hi sl Q I rx hs pl pu h
 obtain ⟨a,xs,rfl,hx,q⟩:=h
 cases rx
 obtain ⟨its,r,ht,hz⟩:=I.list hx
 have hlen:=r.length
 refine ⟨"list",_,slot_list_getitem.lookup,ht.isList.typeIs,?_⟩
 refine wpAny_getItem_list_slice ht.isList hs pl pu .none (by simp) ?_ (by rw [List.size_toArray] <;> omega)
 rw [Waj,← hlen]
 refine ⟨.ref s.heap.objs.size,_,I.laid (t':=s.toks) (o:=.lst (cutV xs lo hi)) (fun b ob q=>Heap.get?_push_of_some _ q) (Nat.le_refl _) ?_,rfl,q _ (I.hok.fresh (Nat.le_refl _))⟩
 exact ⟨Nat.le_trans (Yac xs lo hi) hz,_,0,(r.drop (HT.sIx xs.length 0 lo)).take (HT.sIx xs.length xs.length hi - HT.sIx xs.length 0 lo),Heap.get?_push_size _ rfl⟩
theorem CallR.or {f:Value} {r r':List V→Hp→VK→Prop} (h:CallR X f r) (h':CallR X f r'):CallR X f (fun xs H Q=>r xs H Q∨r' xs H Q):=by
 intro pins s σ H xs us Q I rs q
 rcases q with q | q
 ·exact h pins s σ H xs us Q I rs q
 ·exact h' pins s σ H xs us Q I rs q
theorem X3:CallR X (.type "list") (fun xs H Q=>∃ p ys,xs=[.ref p]∧(SqL X.K H p ys∨SqT X.K H p ys)∧∀ l,H l=none→Q (.ref l) (upd H l (.lst ys))):=by
 intro pins s σ H xs us Q I r h
 obtain ⟨p,ys,rfl,hq,q⟩:=h
 obtain ⟨u,rfl,rx⟩:=vals1 r
 cases rx
 have fin:∀ (its:List Value),Vals ys its→ys.length≤sizeLine→∀ (h':Heap) (c':Nat),(∀ b o',s.heap.get? b=some o'→h'.get? b=some o') →
   h'.get? s.heap.objs.size=some { cls:=.type "list",dict:=none,data:=.seq its.toArray c',slots:=#[] }→EP X pins σ Q (.ref s.heap.objs.size) { s with heap:=h' }:=fun its r' hz h' c' kp e =>
  ⟨.ref s.heap.objs.size,_,I.laid (t':=s.toks) kp (Nat.le_refl _) (show ObjOk X.prog X.w _ h' _ (.lst ys) from ⟨hz,its,c',r',e⟩),rfl,q _ (I.hok.fresh (Nat.le_refl _))⟩
 rcases hq with hq | hq
 ·obtain ⟨its,r',pl,hz⟩:=I.list hq
  have hlen:=r'.length
  obtain ⟨o,ho,hc,n,hd⟩:=pl.isList
  exact call_list_seq p (.inl rfl) ho hc hd (fun h' c' kp e=>fin its r' hz h' c' kp e) (by simp only [List.size_toArray] <;> omega)
 ·obtain ⟨its,r',pl,hz⟩:=I.tuple hq
  have hlen:=r'.length
  obtain ⟨o,ho,hc,n,hd⟩:=pl
  exact call_list_seq p (.inr rfl) ho hc hd (fun h' c' kp e=>fin its r' hz h' c' kp e) (by simp only [List.size_toArray] <;> omega)
theorem Yx:CallR X (.type "tuple") (fun xs H Q=>∃ p ys,xs=[.ref p]∧((SqL X.K H p ys∧∀ l,H l=none→Q (.ref l) (upd H l (.tup ys)))∨(SqT X.K H p ys∧Q (.ref p) H))):=by
 intro pins s σ H xs us Q I r h
 obtain ⟨p,ys,rfl,h⟩:=h
 obtain ⟨u,rfl,rx⟩:=vals1 r
 cases rx
 rcases h with ⟨hq,q⟩ | ⟨hq,q⟩
 ·obtain ⟨its,r',pl,hz⟩:=I.list hq
  have hlen:=r'.length
  refine call_tuple_list pl.isList (fun h' kp=>?_) (by simp only [List.size_toArray] <;> omega)
  have I1:Inv X pins σ H { s with heap:=h' }:=I.kept (t':=s.toks) kp
  have I2:Inv X pins σ (upd H h'.objs.size (.tup ys)) { s with heap:=h'.push { cls:=.type "tuple",data:=.seq its.toArray } } :=
   I1.laid (t':=s.toks) (fun b o e=>Heap.get?_push_of_some _ e) (Nat.le_refl _) (show ObjOk X.prog X.w _ _ _ (.tup ys) from ⟨hz,its,r',IsTupN.new _ _⟩)
  exact ⟨.ref h'.objs.size,_,I2,rfl,q _ (I1.hok.fresh (Nat.le_refl _))⟩
 ·obtain ⟨its,r',pl,hz⟩:=I.tuple hq
  exact call_tuple_same pl ⟨.ref p,H,I,rfl,q⟩
noncomputable def tyV (K:PySem.W.Frag) (T:String) (x:V) (H:Hp):Prop:=match x with
 | .str _=>T = "str"
 | .int _=>T = "int"
 | .ref p=>(T = "list"∧∃ xs,SqL K H p xs)∨(T = "tuple"∧((∃ o,K.lookup p=some o∧o.cls = .type "tuple"∧o.dict=none)∨∃ xs,H p=some (.tup xs))) ∨
   (T = "dict"∧((∃ kvs,H p=some (.dK kvs))∨∃ kvs,H p=some (.dT kvs)))∨(T = "set"∧∃ S n,H p=some (.set S n))
 | _=>False
theorem tyV_is {pins:List (Addr×Obj)} {σ:St} {H:Hp} {s:Shared} {T:String} {x:V} {v:Value} (I:Inv X pins σ H s) (r:RelV x v) (ty:tyV X.K T x H) :
  s.TypeIs v T∧∀ a,v = .ref a→∃ ob,s.heap.get? a=some ob∧ob.dict=none:=by
 cases x with
 | str z =>
  obtain ⟨t,rfl⟩:=r
  cases (show T = "str" from ty)
  exact ⟨typeIs_str s z t,fun _ e=>nomatch e⟩
 | int i =>
  obtain ⟨t,rfl⟩:=r
  cases (show T = "int" from ty)
  exact ⟨typeIs_int s i t,fun _ e=>nomatch e⟩
 | ref p =>
  cases r
  rcases ty with ⟨rfl,xs,hq⟩ | ⟨rfl,⟨o,hk,hc,hd⟩ | ⟨xs,hk⟩⟩ | ⟨rfl,hk⟩ | ⟨rfl,S,n,hk⟩
  ·obtain ⟨its,_,pl,_⟩:=I.list hq
   refine ⟨pl.isList.typeIs,fun a e=>?_⟩
   cases e
   obtain ⟨o,n,e,c,hd,_⟩:=pl
   exact ⟨o,e,hd⟩
  ·refine ⟨⟨o,I.kIn p o hk,hc⟩,fun a e=>?_⟩
   cases e
   exact ⟨o,I.kIn _ o hk,hd⟩
  ·obtain ⟨_,_,_,o,e,c,_,_,hd⟩:=I.hok p _ hk
   refine ⟨⟨o,e,c⟩,fun a e2=>?_⟩
   cases e2
   exact ⟨o,e,hd⟩
  ·have z:∃ o,s.heap.get? p=some o∧o.ExactDict:=by
    rcases hk with ⟨kvs,hk⟩ | ⟨kvs,hk⟩
    ·obtain ⟨_,_,_,_,o,_,_,e,ex,_⟩:=I.hok p _ hk
     exact ⟨o,e,ex⟩
    ·obtain ⟨_,_,_,_,o,_,_,e,ex,_⟩:=I.hok p _ hk
     exact ⟨o,e,ex⟩
   obtain ⟨o,e,ex⟩:=z
   refine ⟨⟨o,e,ex.1⟩,fun a e2=>?_⟩
   cases e2
   exact ⟨o,e,ex.2.1⟩
  ·obtain ⟨o,_,_,_,e,ex,_⟩:=I.hok p _ hk
   refine ⟨⟨o,e,ex.1⟩,fun a e2=>?_⟩
   cases e2
   exact ⟨o,e,ex.2.1⟩
 | _=>exact False.elim ty
noncomputable def tBM (K:PySem.W.Frag) (T:String) (r:V→List V→Hp→VK→Prop) (to:TE) (t:TA):TE:=fun σ H Q=>to σ H fun x H1=>tyV K T x H1∧t σ H1 fun xs H2=>r x xs H2 Q
variable {o e:Expr} {es:List Expr} {to:TE} {t:TA} {name:Str} {apos cpos:Pos} {T id:String} {r:V→List V→Hp→VK→Prop}
theorem pe_bm (pa:PlainAttrs T) (slot:Slot T name id) (hty:typeOf (.builtin id)=pure (.type "method_descriptor")) (hm:MtR X id r) (ho:PE X o to) (ha:PA X (e :: es) t)
  (hbase:attributeBase o name X.env (eval o X.env)=eval o X.env:=by rfl)
  (hfew:((backTo cpos (starEach (e :: es) X.env)).all (fun x=>!x.1) && (backToKw cpos (keywordEach [] X.env)).all (fun x=>x.1.isSome)
   && decide ((e :: es).length + ([]:List Keyword).length + (if ([]:List Keyword).isEmpty then 0 else 1) < 30))=true:=by rfl)
  (hline:(apos.endLine == cpos.line)=true:=by rfl) (hs:starEach (e :: es) X.env=(false,eval e X.env) :: starEach es X.env:=by rfl) (hplain:(backTo cpos (starEach es X.env)).any (·.1)=false:=by rfl) :
  PE X (.Call (.Attribute o name apos) (e :: es) [] cpos) (tBM X.K T r to t):=by
 intro pins s σ H Q I h
 refine wpAny_Call_method_late hbase hfew hline rfl (thn (ho pins s σ H _ I h) fun v s1 ⟨x,H1,I1,r1,ty,q1⟩=>?_)
 obtain ⟨h1,h2⟩:=tyV_is I1 r1 ty
 refine ⟨T,id,pa,slot,hty,h1,h2,?_⟩
 have hA:=ha cpos pins s1 σ H1 _ I1 q1
 rw [hs] at hA ⊢
 refine Calls.callWith_builtin (by show (false || (backTo cpos (starEach es X.env)).any (·.1))=false; rw [hplain] <;> rfl) (Calls.evalArgs_plain ?_)
 exact thn hA fun us s2 ⟨vs,H2,I2,r2,q2⟩=>hm pins s2 σ H2 x vs v us Q I2 r1 r2 q2
/- xs.append(e),list.index on a module's tuple .. are MtR facts of 06m -/
end
end L2
namespace L2
open PySem PySem.Spec PyProof.Rows
noncomputable def MtM (X:Cx) (id:String) (r:V→List V→Hp→VK→Prop):Prop :=
 ∀ (pins:List (Addr×Obj)) (s:Shared) (σ:St) (H:Hp) (x:V) (xs:List V) (v:Value) (us:List Value) (Q:VK),Inv X pins σ H s→RelV x v→Vals xs us→r x xs H Q →
  wpAny (model X.prog X.w) X.A (call (.builtin id) (v :: us)) (EP X pins σ Q) X.xe s
theorem Vals.one:∀ {x:V} {us:List Value},Vals [x] us→∃ u,us=[u]∧RelV x u
 | _,_,.cons r .nil=>⟨_,rfl,r⟩
theorem Vals.two:∀ {x y:V} {us:List Value},Vals [x,y] us→∃ u v,us=[u,v]∧RelV x u∧RelV y v
 | _,_,_,.cons r (.cons q .nil)=>⟨_,_,rfl,r,q⟩
theorem Vals.zero:∀ {us:List Value},Vals [] us→us=[]
 | _,.nil=>rfl
theorem Vals.reverse {xs:List V} {us:List Value} (h:Vals xs us):Vals xs.reverse us.reverse:=by
 induction h with
 | nil=>exact .nil
 | cons r t ih=>rw [List.reverse_cons,List.reverse_cons]; exact Vals.append ih (.cons r .nil)
theorem Vals.rep {xs:List V} {us:List Value} (h:Vals xs us):∀ k:Nat,Vals (List.replicate k xs).flatten (List.replicate k us).flatten
 | 0=>.nil
 | k + 1=>by
  rw [List.replicate_succ,List.replicate_succ,List.flatten_cons,List.flatten_cons]
  exact Vals.append h (Vals.rep h k)
section
variable {X:Cx} {pins:List (Addr×Obj)} {σ:St} {H:Hp} {s:Shared} {l b:Addr} {xs ys zs:List V}
theorem Inv.lset {its its':List Value} {n:Nat} {f:Array Value→Array Value} {t':Nat} (I:Inv X pins σ H s) (hH:H l=some (.lst xs))
  (e:s.heap.get? l=some { cls:=.type "list",data:=.seq its.toArray n }) (hf:f its.toArray=its'.toArray) (hv:Vals ys its') (hz:ys.length≤sizeLine) :
  Inv X pins σ (upd H l (.lst ys)) { s with heap:=s.heap.update l (Obj.mapSeq f),toks:=t' }:=by
 have q:=PySem.IsL.update e f
 rw [hf] at q
 refine I.write (x:=l) (e:=l) (by rw [hH]; exact trivial) (.inl rfl) (fun b' u hb hu=>(Heap.get?_update_other s.heap (Obj.mapSeq f) (Ne.symm hb)).trans hu) ⟨_,q⟩ ?_
 exact ⟨hz,its',_,hv,q⟩
theorem Inv.lnew {its:List Value} {t':Nat} (I:Inv X pins σ H s) (hv:Vals ys its) (hz:ys.length≤sizeLine) :
  Inv X pins σ (upd H s.heap.objs.size (.lst ys)) { s with heap:=s.heap.push { cls:=.type "list",data:=.seq its.toArray },toks:=t' } :=
 I.laid (fun _ _ q=>Heap.get?_push_of_some _ q) (Nat.le_refl _) ⟨hz,its,0,hv,Heap.get?_push_size _ rfl⟩
theorem Inv.fresh (I:Inv X pins σ H s):H s.heap.objs.size=none:=I.hok.fresh (Nat.le_refl _)
theorem Inv.lstM (I:Inv X pins σ H s) (hH:H l=some (.lst xs)):xs.length≤sizeLine∧∃ (its:List Value) (n:Nat),Vals xs its∧xs.length=its.length∧s.heap.get? l=some { cls:=.type "list",data:=.seq its.toArray n }:=by
 obtain ⟨z,its,n,r,e⟩:=I.hok l _ hH
 exact ⟨z,its,n,r,r.length,e⟩
theorem Vbf {n:Nat} (h:n≤sizeLine):Builtin.List.listTooLong n=false:=by
 unfold Builtin.List.listTooLong
 exact decide_eq_false (by omega)
end
section
variable {X:Cx}
noncomputable def rAppend:V→List V→Hp→VK→Prop:=fun x vs H Q=>∃ l xs y,x = .ref l∧vs=[y]∧H l=some (.lst xs)∧xs.length < sizeLine∧Q .non (upd H l (.lst (xs ++ [y])))
theorem mt_append:MtM X "list.append" rAppend:=by
 intro pins s σ H x vs v us Q I rx rv h
 obtain ⟨l,xs,y,rfl,rfl,hH,hz,q⟩:=h
 cases rx
 obtain ⟨u,rfl,ru⟩:=rv.one
 obtain ⟨z,its,n,r,hl,e⟩:=I.lstM hH
 refine call_meets F.slot_list_append ⟨_,e,rfl⟩ F.entry_list_append (F.args_list_append_2 _ _) (PySem.list_append l its.toArray n u (by rw [List.size_toArray]; omega)) ⟨e,?_⟩
 refine ⟨.non,_,I.lset (its':=its ++ [u]) hH e (by simp) (r.append (.cons ru .nil)) ?_,rfl,q⟩
 rw [List.length_append,List.length_singleton]
 omega
noncomputable def rExtend:V→List V→Hp→VK→Prop:=fun x vs H Q=>∃ l b xs zs,x = .ref l∧vs=[.ref b]∧H l=some (.lst xs)∧H b=some (.lst zs)∧xs.length + zs.length≤sizeLine∧Q .non (upd H l (.lst (xs ++ zs)))
theorem mt_extend:MtM X "list.extend" rExtend:=by
 intro pins s σ H x vs v us Q I rx rv h
 obtain ⟨l,b,xs,zs,rfl,rfl,hH,hB,hz,q⟩:=h
 cases rx
 obtain ⟨u,rfl,ru⟩:=rv.one
 cases ru
 obtain ⟨z,its,n,r,hl,e⟩:=I.lstM hH
 obtain ⟨z2,its2,n2,r2,hl2,e2⟩:=I.lstM hB
 have hsz:its.toArray.size + its2.toArray.size≤sizeLine:=by rw [List.size_toArray,List.size_toArray]; omega
 have hlong:¬ (!its.toArray.isEmpty && Builtin.List.listTooLong (its.toArray.size + its2.toArray.size))=true:=by
  rw [Vbf hsz,Bool.and_false]
  exact Bool.false_ne_true
 refine call_meets F.slot_list_extend ⟨_,e,rfl⟩ F.entry_list_extend (F.args_list_extend_2 _ _)
  (AutoSeq1.list_extend_list_list_0 l its.toArray n b its2.toArray n2 hlong (by rw [List.size_toArray]; omega) (by omega)) ⟨e,e2,?_⟩
 refine ⟨.non,_,I.lset (its':=its ++ its2) hH e (by simp) (r.append r2) ?_,rfl,q⟩
 rw [List.length_append]
 omega
noncomputable def rCat:R2:=fun x y H Q=>∃ l b xs zs,x = .ref l∧y = .ref b∧H l=some (.lst xs)∧H b=some (.lst zs)∧xs.length + zs.length≤sizeLine∧∀ p,H p=none→Q (.ref p) (upd H p (.lst (xs ++ zs)))
theorem op_cat:OpR X (binaryOp .Add) rCat:=by
 intro pins s σ H x y v u Q I rx ry h
 obtain ⟨l,b,xs,zs,rfl,rfl,hH,hB,hz,q⟩:=h
 cases rx
 cases ry
 obtain ⟨z,its,n,r,hl,e⟩:=I.lstM hH
 obtain ⟨z2,its2,n2,r2,hl2,e2⟩:=I.lstM hB
 refine PySem.P.add_list e e2 ?_ (by rw [List.size_toArray,List.size_toArray]; omega)
 have ea:its.toArray ++ its2.toArray=(its ++ its2).toArray:=by simp
 rw [ea]
 exact ⟨.ref _,_,I.lnew (t':=s.toks) (r.append r2) (by rw [List.length_append]; omega),rfl,q _ I.fresh⟩
end
section
variable {prog:Program} {w:World} {A:Around} {E:Value→Shared→Prop} {s:Shared}
end
section
variable {X:Cx}
end
end L2
namespace Att
open PySem PySem.W PySem.Calls PyProof.Rows
theorem Zab {P:Params} {h:Heap}:∀ (ns:List Int) (vs:List Value),WellAll P h vs (ns.map WData.int)→IntsAre vs ns:=by
 intro ns
 induction ns with
 | nil =>
  intro vs w
  rw [List.map_nil] at w
  cases w
  exact .nil
 | cons n ns ih =>
  intro vs w
  rw [List.map_cons] at w
  cases w with
  | cons a b =>
   cases a
   exact .cons _ _ (ih _ b)
theorem script_of {l:OpenLaw} {n:Nat} (hn:l.most=some n) {P:Params} {h:Heap} {args:List WData} {vals:List Value}
  (hpre:l.row.toRowW.claim.pre args=true) (hwl:WellAll P h vals args) :
  ∃ a vs ns,vals=[Value.ref a]∧args=[WData.list (ns.map WData.int)]∧h.get? a=some { cls:=.type "list",data:=.seq vs.toArray }∧IntsAre vs ns∧ns.length≤n:=by
 have hsh:WShape.hasAll [] args [.list .int]=true:=(pre_splitW hpre).1
 have hc:l.pre.holds [] { args:=args }=true:=(pre_splitW hpre).2
 obtain ⟨d,r,rfl,h1,h2⟩:=hasAllW_cons hsh
 obtain rfl:=hasAllW_nil h2
 obtain ⟨xs,rfl,h3⟩:=hasW_list h1
 obtain ⟨ns,rfl⟩:=items_int h3
 have hlen:ns.length≤n:=by
  unfold OpenLaw.pre at hc
  have h4:(WTm.not (.lt (.lit (.int (n:Int))) (.len (.arg 0)))).holds [] { args:=[.list (ns.map .int)] }=true:=by
   have h4:=(holds_andW hc).1
   rw [hn] at h4
   exact h4
  have h5:=condW_of h4 (w_not (w_lt w_lit (w_len_list (w_arg rfl))))
  rw [List.length_map] at h5
  refine Nat.le_of_not_lt fun q=>?_
  have q':(n:Int) < ((ns.length:Nat):Int):=by omega
  first
   | (rw [decide_eq_true q'] at h5; exact absurd h5 (by decide))
   | (simp at h5; omega)
 cases hwl with
 | cons w1 w2 =>
  cases w2
  cases w1 with
  | list ho hall=>exact ⟨_,_,ns,rfl,rfl,ho,Zab ns _ hall,hlen⟩
theorem post_true (l:OpenLaw) (args:List WData):l.row.toRowW.claim.post args (.bool true) args=true :=
 postW_of (r:=l.row.toRowW) (X:=(true == true))
  (show WShape.has [] (.bool true) .bool=true by first | rfl | decide | simp [WShape.has,WShape.arms,WShape.armsAll])
  (show (WTm.eq .res (.lit (.bool true))).value [] { args:=args,res:=some (.bool true),after:=args }=some (.bool (true == true)) from w_eq_bool (w_res rfl) w_lit) rfl
theorem attach_call {l:OpenLaw} {n:Nat} {q:Program} {loose:List Str} {XP:(Str→Option Value)→Heap→Prop} {YP:World→Heap→Prop} {d:DefRec}
  (hn:l.most=some n) (hdf:d.params.defaults=[])
  (call:∀ (w:World) (s₀ s₁:Shared) (mg mb:Str→Option Value) (fa:Addr) (o:Obj) (pm cd doc:Value) (a:Addr) (vs:List Value) (ns:List Int),
   Ground q loose [] XP w s₀ mg mb s₁.heap→YP w s₁.heap →
   s₁.heap.get? fa=some o→o.data = .func (docDef d.name d.params d.body d.scope pm cd doc)→s₁.heap.CodeRec cd d.name→mg d.name=some (.ref fa) →
   s₁.heap.get? a=some { cls:=.type "list",data:=.seq vs.toArray }→IntsAre vs ns→ns.length≤n→s₁.gens = #[] →
   codeAny (model l.prog w) callerA (.call (.ref fa) ⟨[.ref a],[]⟩) (fun r s'=>r = .ok (.ret (.bool true))∧OldK s₁.heap s'.heap∧s'.os=s₁.os∧AllBare s'.gens) s₁) :
  WalkO q loose XP YP l.row.toRowW d [] (fun f vs=>PySem.call f vs):=by
 intro w s₀ s₁ mg mb G Y fa o pm cd doc dV kV ho hd hcd hD hmg hg args vals as hpre hlay hrd hwl hlo
 obtain rfl:dV = .none:=Dflts.none hD hdf
 obtain rfl:kV = .none:=Dflts.noKw hD
 obtain ⟨a,vs,ns,rfl,rfl,hobj,hints,hlen⟩:=script_of hn hpre hwl
 refine enter_call (codeAny_mono (call w s₀ s₁ mg mb fa o pm cd doc a vs ns G Y ho (fd_plain hd) hcd hmg hobj hints hlen hg) fun r s' hq=>?_)
 obtain ⟨rfl,h2,h3,h4⟩:=hq
 exact ⟨.inl ⟨.bool true,.bool true,[],rfl,fun _=>rfl,.bool true,post_true l _,fun _=>⟨List.Pairwise.nil,fun _ hm=>(nomatch hm)⟩⟩,h2,h3,h4⟩
section
variable {prog:Program} {w:World} {A:Around} {E:Value→Shared→Prop} {s:Shared} {K:Frag}
noncomputable def ledger (h:Heap) (L d:Addr):List (Addr×Obj):=(List.range h.objs.size).filterMap fun a=>if a=L∨a=d then none else (h.get? a).map fun o=>(a,o)
end
end Att
namespace L2
open PySem PySem.Spec PyProof.Rows
theorem War:∀ {vs:List Value} {ns:List Int},IntsAre vs ns→Vals (ns.map V.int) vs
 | _,_,.nil=>.nil
 | _,_,.cons n t h=>.cons ⟨t,rfl⟩ (War h)
noncomputable def Only (H:Hp):Prop:=∀ b,H b=none∨∃ o xs,H b=some (.frz o (.lst xs))
theorem law_call {P:Program} {w:World} {K:PySem.W.Frag} {mg mb:Str→Option Value} {CX:CXT} {k:Nat} {fa a:Addr} {fd:FuncData} {x:Str} {sp:Sp} {s₁:Shared} {vs:List Value} {ns:List Int}
  (KX:K.In s₁.heap) (hns:s₁.heap.Ns mainGlobals mg) (hb:s₁.heap.Ns builtinsNs mb) (hbb:∀ x:Str,x≠"__name__"→mb x=bootBuiltins x) (hlim:s₁.heap.NoLimit) (hsy:∃ mm,s₁.heap.Ns sysModules mm) (hg:s₁.gens = #[])
  (ha:s₁.heap.get? a=some { cls:=.type "list",data:=.seq vs.toArray }) (hi:IntsAre vs ns) (hl:ns.length≤sizeLine) (hr:Room k callerA)
  (F:∀ base:Heap,K.In base→base.Ns mainGlobals mg→FnOk P w K mg base CX k fa fd [x] sp) (hbind:∀ (s:Shared) (u:Value),BindsTo s fd ⟨[u],[]⟩ [(x,u)])
  (hsp:∀ H:Hp,Only H→SqL K H a (ns.map V.int)→sp [.ref a] H (fun v _=>v = .bl true) fun _ _ _=>False)
  (hCX:∀ H e s',CX [] H s₁ (fun _ _ _=>False) e s'→False) :
  codeAny (model P w) callerA (.call (.ref fa) ⟨[.ref a],[]⟩) (fun r s'=>r = .ok (.ret (.bool true))∧OldK s₁.heap s'.heap∧s'.os=s₁.os∧AllBare s'.gens) s₁:=by
 have rv:=War hi
 have lenV:=hi.length
 have core:∀ H:Hp,Only H→SqL K H a (ns.map V.int)→HOk P w H s₁.heap→(∀ b,H b≠none→b=a)→(H a≠none→K.lookup a=none) →
   codeAny (model P w) callerA (.call (.ref fa) ⟨[.ref a],[]⟩) (fun r s'=>r = .ok (.ret (.bool true))∧OldK s₁.heap s'.heap∧s'.os=s₁.os∧AllBare s'.gens) s₁:=by
  intro H hO hS hok hA hK
  have Xa9:∀ {b:Addr} {o:Obj},s₁.heap.get? b=some o→H b=none→(hidT s₁.heap H).get? b=some o:=fun e n=>hidT_get e n
  have noA:∀ {b:Addr} {o:Obj} {es:Array DictEntry} {ep:Nat},s₁.heap.get? b=some o→o.data = .dict es ep→H b=none:=fun {b o es ep} e d=>by
   cases q:H b with
   | none=>rfl
   | some u =>
    have e':b=a:=hA b (by rw [q]; simp)
    subst e'
    rw [ha] at e; cases e
    have d':Data.seq vs.toArray _=Data.dict es ep:=d
    cases d'
  have nsK:∀ {b:Addr} {m:Str→Option Value},s₁.heap.Ns b m→(hidT s₁.heap H).Ns b m:=fun {b m} ⟨o,es,ep,e,d,r⟩=>⟨o,es,ep,Xa9 e (noA e d),d,r⟩
  have hKb:K.In (hidT s₁.heap H):=fun b o e=>Xa9 (KX b o e) (by
   cases q:H b with
   | none=>rfl
   | some u =>
    have e':b=a:=hA b (by rw [q]; simp)
    subst e'
    rw [hK (by rw [q]; simp)] at e; cases e)
  have hM:Mod K mg (hidT s₁.heap H):=⟨hKb,nsK hns,⟨mb,nsK hb,hbb⟩,let ⟨mc,h1,h2⟩:=hlim; ⟨mc,nsK h1,h2⟩,let ⟨mm,h1⟩:=hsy; ⟨mm,nsK h1⟩⟩
  have e0:Env0 P w K mg (hidT s₁.heap H) callerA [] s₁ H:=⟨rfl,hM,fun b o e=>of_hidT e,Nat.le_of_eq (hidT_size _ _),trivial,fun b hb=>absurd (show b∈([]:List Addr) from hb) (by simp),hok,.of_eq hg,fun v q=>nomatch q⟩
  refine codeAny_mono ((F _ hKb (nsK hns)).run callerA [] s₁ H ⟨[.ref a],[]⟩ [.ref a] [.ref a] _ _ hr e0 (hbind s₁ (.ref a)) (.cons rfl .nil) (hsp H hO hS)) fun r s' h=>?_
  cases r with
  | error e=>exact (hCX H e s' h).elim
  | ok fl =>
   cases fl with
   | next=>exact False.elim h
   | brk=>exact False.elim h
   | cont=>exact False.elim h
   | ret u =>
    obtain ⟨v,H',os,bare,un,hok',r',q⟩:=h
    have q':v = .bl true:=q
    subst q'
    obtain rfl:u=Value.bool true:=r'
    refine ⟨rfl,OldK.of_keep fun b o e=>?_,os,bare⟩
    cases q:H b with
    | none=>exact un.keep b o e q (by intro z; exact absurd (show b∈([]:List Addr) from z) (by simp)) (by simp)
    | some u =>
     rcases hO b with z | ⟨ob,xs,z⟩
     ·rw [q] at z; cases z
     ·have z2:=un.frzs b ob _ z
      obtain ⟨e1,_⟩:=hok b _ z
      obtain ⟨e2,_⟩:=hok' b _ z2
      rw [e] at e1; cases e1
      exact e2
 cases hk:K.lookup a with
 | some o =>
  have e:=KX a o hk
  rw [ha] at e
  cases e
  refine core (fun _=>none) (fun _=>.inl rfl) (.inr ⟨_,vs.toArray,_,hk,rfl,rfl,rfl,by rw [List.size_toArray,lenV]; exact hl,by simpa using rv⟩) (fun b u z=>by have z':(none:Option HO)=some u:=z; cases z') (fun b z=>absurd rfl z) fun z=>absurd rfl z
 | none =>
  refine core (fun b=>if b=a then some (.frz { cls:=.type "list",data:=.seq vs.toArray } (.lst (ns.map V.int))) else none) (fun b=>?_) (.inl (.inr ⟨{ cls:=.type "list",data:=.seq vs.toArray },if_pos rfl⟩)) (fun b u z=>?_) (fun b z=>?_) fun _=>hk
  ·by_cases hb:b=a
   ·exact .inr ⟨_,_,if_pos hb⟩
   ·exact .inl (if_neg hb)
  ·by_cases hb:b=a
   ·have z':=(if_pos hb).symm.trans z
    cases z'
    subst hb
    exact ⟨ha,by rw [List.length_map]; exact hl,vs,_,rv,ha⟩
   ·have z':=(if_neg hb).symm.trans z
    cases z'
  ·by_cases hb:b=a
   ·exact hb
   ·exact absurd (if_neg hb) z
end L2
namespace L2
open PySem PySem.Spec PyProof.Rows
noncomputable abbrev KOf {K:PySem.W.Frag} {h:Heap} (_:K.In h):PySem.W.Frag:=K
theorem walk_of {l:PySem.W.OpenLaw} {n k:Nat} {q:Program} {loose:List Str} {XP:(Str→Option Value)→Heap→Prop} {YP:World→Heap→Prop} {d:DefRec} {K:Params→PySem.W.Frag} {CX:World→CXT} {sp:World→Sp} {x:Str}
  (hI:importsNone q=true) (hn:l.most=some n) (hn2:n≤sizeLine) (hdf:d.params.defaults=[]) (hr:Room k callerA)
  (hY:∀ (w:World) (h:Heap),YP w h→(K w.params).In h)
  (F:∀ (w:World) (mg:Str→Option Value) (fa:Addr) (h:Heap),(K w.params).In h→h.Ns mainGlobals mg→mg d.name=some (.ref fa) →
   ∃ fd:FuncData,(∀ (s:Shared) (u:Value),BindsTo s fd ⟨[u],[]⟩ [(x,u)]) ∧
    ∀ base:Heap,(K w.params).In base→base.Ns mainGlobals mg→FnOk l.prog w (K w.params) mg base (CX w) k fa fd [x] (sp w))
  (hsp:∀ (w:World) (H:Hp) (a:Addr) (ns:List Int),ns.length≤n→Only H→SqL (K w.params) H a (ns.map V.int)→sp w [.ref a] H (fun v _=>v = .bl true) fun _ _ _=>False)
  (hCX:∀ (w:World) (H:Hp) (s:Shared) (e:Value) (s':Shared),CX w [] H s (fun _ _ _=>False) e s'→False) :
  PySem.W.WalkO q loose XP YP l.row.toRowW d [] (fun f vs=>PySem.call f vs):=by
 refine Att.attach_call hn hdf fun w s₀ s₁ mg mb fa o pm cd doc a vs ns G Y ho hd hcd hmg hobj hints hlen hg=>?_
 have KX:=hY w _ Y
 obtain ⟨fd,hb,hF⟩:=F w mg fa _ KX G.T.g hmg
 exact law_call KX G.T.g G.T.b G.T.builtins G.T.nolimit (let ⟨mm,z,_⟩:=(G.T.seer hI).mods; ⟨mm,z⟩) hg hobj hints (Nat.le_trans hlen hn2) hr hF hb (fun H hO hS=>hsp w H a ns hlen hO hS) fun H e s'=>hCX w H s₁ e s'
end L2
/- THE LAST THEOREM (shape; LID, My.* are yours):
   My.Adr: a structure of the addresses that your layer names (classes, functions); My.Txt K t: a structure (Prop) of the equations over K;
   My.txt_mk : {K} {implicit addresses ..} (e1 : nsIn K mainGlobals "law" = some (some (.ref f))) (e2 : K.lookup f = some ⟨oc, od, .func (fnOf "law" "law" params body scope dV kV doc pm an cdv ct), sl⟩) (e3 : codeIn K cdv "law" = true) .. : ∃ t, My.Txt K t
set_option maxRecDepth 100000 in
set_option maxHeartbeats 0 in
theorem PySem.Challenge.cw_LID_holds : PySem.Challenge.rw_LID.Holds := by
 w_on; o_law; k_head; (case hw=>w_witness2)
 k_fill
 refine L2.walk_of (l:=PySem.Challenge.rw_LID) (n:=63) (k:=40) (x:="script") (CX:=fun w=>..) (sp:=fun _=>My.sp_law) rfl (by decide) rfl ⟨rfl,by decide,by decide⟩ (fun w h Y=>PySem.W.kIn_of Y) ?F ?S ?C
 case F =>
  intro w mg fa h KX G hmg
  have T:∃ t,My.Txt (L2.KOf KX) t:=by
   dsimp only [L2.KOf] -- K must stand as «<heap const> w.params» for k_is
   refine' My.txt_mk ?e1 ?e2 ?e3 ..
   (case e1=>PySem.W.k_is) -- in the order: a name -> its address -> its object -> its parts
   (case e2=>PySem.W.k_is)
   ..
  obtain ⟨t,T⟩:=T
  have e0:=hmg.symm.trans (PySem.W.mg_of KX G T.law)
  cases e0 -- fa is the law's own address
  exact ⟨_,fun s u=>.of_eq rfl,fun base kb nb=>My.law_fn T kb nb⟩ -- if «.of_eq rfl» comes too early: refine' ⟨_,?b,fun base kb nb=>My.law_fn T kb nb⟩; exact fun s u=>.of_eq rfl
 case S=>exact fun w H a ns hl hO hS=>..
 case C=>exact ..
(the tactic k_is has no namespace: write k_is) -/
namespace L2
open PySem PySem.Spec PyProof.Rows
noncomputable def Vz (s:Stmt):Arguments:=match s with
 | .FunctionDef _ a _ _ _ _ _ _ _ _=>a
 | _=>{ posonlyargs:=[],args:=[],vararg:=none,kwonlyargs:=[],kw_defaults:=[],kwarg:=none,defaults:=[] }
noncomputable def Xb (s:Stmt):List Stmt:=match s with
 | .FunctionDef _ _ b _ _ _ _ _ _ _=>b
 | _=>[]
noncomputable def Xa (s:Stmt):Scope:=match s with
 | .FunctionDef _ _ _ _ _ _ sc _ _ _=>sc
 | _=>{ kind:=.function,names:=[],isGenerator:=false,isCoroutine:=false }
noncomputable abbrev CX0:CXT:=fun _ _ _ _ _ _=>False
noncomputable abbrev E0:XK:=fun _ _ _=>False
structure Fun (K:PySem.W.Frag) (x qual:Str) (st:Stmt) (f:Addr) (fd:FuncData):Prop where
 ex:∃ (oc:Value) (od:Option Addr) (kV doc pm:Value) (an:Option Addr) (cdv ct:Value) (osl:Array (Option Value)),
  fd=PySem.W.fnOf x qual (Vz st) (Xb st) (Xa st) .none kV doc pm an cdv ct∧K.lookup f=some ⟨oc,od,.func fd,osl⟩∧PySem.W.codeIn K cdv qual=true
 kp:PySem.W.keepIn K (.ref f)=true
section
variable {P:Program} {w:World} {K:PySem.W.Frag} {mg:Str→Option Value} {base:Heap}
theorem Fun.ok {x qual:Str} {st:Stmt} {f:Addr} {fd:FuncData} {N ps:List Str} {k:Nat} {sp:Sp} (F:Fun K x qual st f fd) (S:FnScope N ps (Xa st)) (len:∀ vs H Q E,sp vs H Q E→vs.length=ps.length)
  (hbody:∀ (cdv:Value) (A:Around) (outer:List Env) (s:Shared) (H:Hp) (vs:List V) (Q:VK) (E:XK),Room k (A.deeper (envOfC qual (Xa st) s.heap.objs.size f cdv))→sp vs H Q E →
   ∃ t,PSs (cxOf CX0 P w K mg base N qual (Xa st) f cdv A outer s H E).nox (Xb st) t∧t { nx:=fun _ H'=>Q .non H',rt:=Q } (start N vs) H):FnOk P w K mg base CX0 (k + 1) f fd ps sp:=by
 obtain ⟨oc,od,kV,doc,pm,an,cdv,ct,osl,rfl,lk,hcd⟩:=F.ex
 refine fn_of lk hcd S len fun A outer s H vs Q E hr hsp=>?_
 obtain ⟨t,h,q⟩:=hbody cdv A outer s H vs Q E hr hsp
 exact ⟨t,h.nox,q⟩
theorem Fun.binds {x qual:Str} {st:Stmt} {f:Addr} {fd:FuncData} {ps:List Str} (F:Fun K x qual st f fd)
  (h:∀ (kV doc pm:Value) (an:Option Addr) (cdv ct:Value) (us:List Value),us.length=ps.length→bindArgs (PySem.W.fnOf x qual (Vz st) (Xb st) (Xa st) .none kV doc pm an cdv ct) ⟨us,[]⟩=pure (ps.zip us)):Binds K fd ps []:=by
 obtain ⟨oc,od,kV,doc,pm,an,cdv,ct,osl,rfl,lk,hcd⟩:=F.ex
 exact .all (h kV doc pm an cdv ct)
theorem fun_mk {x qual:Str} {st:Stmt} {f:Addr} {oc:Value} {od an:Option Addr} {osl:Array (Option Value)} {kV doc pm cdv ct:Value} (l:K.lookup f=some ⟨oc,od,.func (PySem.W.fnOf x qual (Vz st) (Xb st) (Xa st) .none kV doc pm an cdv ct),osl⟩)
  (c:PySem.W.codeIn K cdv qual=true) (k:PySem.W.keepIn K (.ref f)=true):Fun K x qual st f (PySem.W.fnOf x qual (Vz st) (Xb st) (Xa st) .none kV doc pm an cdv ct):=⟨⟨oc,od,kV,doc,pm,an,cdv,ct,osl,rfl,l,c⟩,k⟩
end
section
variable {X:Cx}
end
noncomputable def Same (H H':Hp):Prop:=∀ b o,H b=some o→H' b=some o
theorem Same.refl (H:Hp):Same H H:=fun _ _ h=>h
theorem Same.trans {H H1 H2:Hp} (a:Same H H1) (b:Same H1 H2):Same H H2:=fun c o h=>b c o (a c o h)
theorem Same.free {H H':Hp} (e:Same H H') {l:Addr} (h:H' l=Option.none):H l=Option.none:=by
 cases q:H l with
 | none=>rfl
 | some o =>
  rw [e l o q] at h
  cases h
theorem Same.seq {K:PySem.W.Frag} {H H':Hp} {a:Addr} {xs:List V} (e:Same H H') (h:SqL K H a xs):SqL K H' a xs:=by
 rcases h with (h | ⟨o,h⟩) | h
 ·exact .inl (.inl (e _ _ h))
 ·exact .inl (.inr ⟨o,e _ _ h⟩)
 ·exact .inr h
end L2
end
section
namespace L2
open PySem PySem.Spec PyProof.Rows
section
variable {κ:Type} [DecidableEq κ]
noncomputable def valV (kvs:List (κ×V)) (k:κ):Option V:=(kvs.find? fun kv=>decide (kv.1=k)).map (·.2)
noncomputable def putK (kvs:List (κ×V)) (k:κ) (v:V):List (κ×V) :=
 if (kvs.any fun kv=>decide (kv.1=k))=true then kvs.map (fun kv=>if kv.1=k then (kv.1,v) else kv) else kvs ++ [(k,v)]
noncomputable def dropK (kvs:List (κ×V)) (k:κ):List (κ×V):=kvs.filter fun kv=>decide (kv.1≠k)
theorem Zai {p:κ×V} {r:List (κ×V)} {k:κ} (e:p.1=k):valV (p :: r) k=some p.2:=by simp [valV,List.find?_cons,e]
theorem Yai {p:κ×V} {r:List (κ×V)} {k:κ} (e:¬ p.1=k):valV (p :: r) k=valV r k:=by simp [valV,List.find?_cons,e]
theorem X4 (k:κ):∀ kvs:List (κ×V),(kvs.any fun kv=>decide (kv.1=k))=(valV kvs k).isSome
 | []=>rfl
 | p :: r=>by
  rw [List.any_cons]
  by_cases e:p.1=k
  ·simp only [Zai e,decide_eq_true e,Bool.true_or,Option.isSome_some]
  ·rw [Yai e,decide_eq_false e,Bool.false_or]; exact X4 k r
theorem Wt (kvs:List (κ×V)) (k:κ) (v:V):(putK kvs k v).length≤kvs.length + 1:=by
 unfold putK
 split
 ·rw [List.length_map]; omega
 ·rw [List.length_append,List.length_cons,List.length_nil]; omega
theorem RelO.isSome_eq {o:Option V} {u:Option Value} (r:RelO o u):o.isSome=u.isSome:=by
 cases o with
 | none=>cases u with
  | none=>rfl
  | some _=>exact (show False from r).elim
 | some _=>cases u with
  | none=>exact (show False from r).elim
  | some _=>rfl
theorem RelO.getD {o:Option V} {u:Option Value} {d:V} {d':Value} (r:RelO o u) (rd:RelV d d'):RelV (o.getD d) (u.getD d'):=by
 cases o with
 | none=>cases u with
  | none=>exact rd
  | some _=>exact (show False from r).elim
 | some _=>cases u with
  | none=>exact (show False from r).elim
  | some _=>exact r
theorem KV.val {kvs:List (κ×V)} {vs:List (κ×Value)} (r:KV kvs vs) (k:κ):RelO (valV kvs k) (valueAt vs k):=by
 unfold KV at r
 induction r with
 | nil=>exact True.intro
 | @cons p q ps qs h t ih =>
  obtain ⟨h1,h2⟩:=h
  by_cases e:p.1=k
  ·have e':q.1=k:=h1.symm.trans e
   have b:valueAt (q :: qs) k=some q.2:=by simp [valueAt,List.find?_cons,e']
   rw [Zai e,b]; exact h2
  ·have e':¬ q.1=k:=fun z=>e (h1.trans z)
   have b:valueAt (q :: qs) k=valueAt qs k:=by simp [valueAt,List.find?_cons,e']
   rw [Yai e,b]; exact ih
theorem KV.any {kvs:List (κ×V)} {vs:List (κ×Value)} (r:KV kvs vs) (k:κ):(kvs.any fun kv=>decide (kv.1=k))=vs.any fun kv=>decide (kv.1=k):=by
 unfold KV at r
 induction r with
 | nil=>rfl
 | cons h t ih=>rw [List.any_cons,List.any_cons,ih,h.1]
theorem KV.repl {kvs:List (κ×V)} {vs:List (κ×Value)} (r:KV kvs vs) (k:κ) {y:V} {u:Value} (ry:RelV y u) :
  KV (kvs.map fun kv=>if kv.1=k then (kv.1,y) else kv) (vs.map fun kv=>if kv.1=k then (kv.1,u) else kv):=by
 unfold KV at r ⊢
 induction r with
 | nil=>exact .nil
 | @cons p q ps qs h t ih =>
  rw [List.map_cons,List.map_cons]
  refine .cons ?_ ih
  obtain ⟨h1,h2⟩:=h
  by_cases e:p.1=k
  ·rw [if_pos e,if_pos (h1.symm.trans e)]; exact ⟨h1,ry⟩
  ·rw [if_neg e,if_neg (fun z=>e (h1.trans z))]; exact ⟨h1,h2⟩
theorem KV.put {kvs:List (κ×V)} {vs:List (κ×Value)} (r:KV kvs vs) (k:κ) {y:V} {u:Value} (ry:RelV y u):KV (putK kvs k y) (stored vs k u):=by
 unfold putK stored
 rw [r.any k]
 by_cases e:(vs.any fun kv=>decide (kv.1=k))=true
 ·rw [if_pos e,if_pos e]; exact r.repl k ry
 ·rw [if_neg e,if_neg e]; exact Paired.snoc r ⟨rfl,ry⟩
theorem KV.drop {kvs:List (κ×V)} {vs:List (κ×Value)} (r:KV kvs vs) (k:κ):KV (dropK kvs k) (without vs k):=by
 unfold KV at r ⊢
 unfold dropK without
 induction r with
 | nil=>exact .nil
 | @cons p q ps qs h t ih =>
  obtain ⟨h1,h2⟩:=h
  rw [List.filter_cons,List.filter_cons]
  by_cases e:p.1=k
  ·have a:¬ decide (p.1≠k)=true:=by simp [e]
   have b:¬ decide (q.1≠k)=true:=by simp [h1.symm.trans e]
   rw [if_neg a,if_neg b]; exact ih
  ·have e':¬ q.1=k:=fun z=>e (h1.trans z)
   have a:decide (p.1≠k)=true:=by simp [e]
   have b:decide (q.1≠k)=true:=by simp [e']
   rw [if_pos a,if_pos b]; exact .cons ⟨h1,h2⟩ ih
theorem KV.length {kvs:List (κ×V)} {vs:List (κ×Value)} (r:KV kvs vs):kvs.length=vs.length:=Paired.length r
end
theorem kV_is {P:Program} {w:World} {k:Key} {u:Value} (r:RelV (kV k) u):(Vd P w).is k u=true:=by
 cases k with
 | inl i=>obtain ⟨t,e⟩:=(show ∃ t,u=Value.int i t from r); subst e; exact Za6 P w i t
 | inr x=>obtain ⟨t,e⟩:=(show ∃ t,u=Value.str x t from r); subst e; exact Va5 P w x t
theorem Vax {P:Program} {w:World}:∀ {ks:List Key} {us:List Value},Vals (ks.map kV) us→ItemsAre (Vd P w) ks us
 | [],_,r=>by rw [List.map_nil] at r; cases r; exact .nil
 | k :: ks,_,r=>by
  rw [List.map_cons] at r
  cases r with
  | cons h t=>exact .cons (kV_is h) (Vax t)
noncomputable abbrev KT (H:Hp):List (List Key×V)→List (List Key×Addr×Value)→Prop:=Paired fun p q=>p.1=q.1∧H q.2.1=some (.tup (p.1.map kV))∧RelV p.2 q.2.2
theorem KT.val {H:Hp} {kvs:List (List Key×V)} {xs:List (List Key×Addr×Value)} (r:KT H kvs xs) (k:List Key):RelO (valV kvs k) ((atKey xs k).map (·.2)):=by
 induction r with
 | nil=>exact True.intro
 | @cons p q ps qs h t ih =>
  obtain ⟨h1,_,h2⟩:=h
  by_cases e:p.1=k
  ·have e':q.1=k:=h1.symm.trans e
   have b:atKey (q :: qs) k=some q.2:=by simp [atKey,List.find?_cons,e']
   rw [Zai e,b]; exact h2
  ·have e':¬ q.1=k:=fun z=>e (h1.trans z)
   have b:atKey (q :: qs) k=atKey qs k:=by simp [atKey,List.find?_cons,e']
   rw [Yai e,b]; exact ih
theorem KT.repl {H:Hp} {kvs:List (List Key×V)} {xs:List (List Key×Addr×Value)} (r:KT H kvs xs) (k:List Key) {y:V} {u:Value} (ry:RelV y u) :
  KT H (kvs.map fun kv=>if kv.1=k then (kv.1,y) else kv) (xs.map (putAt k u)):=by
 induction r with
 | nil=>exact .nil
 | @cons p q ps qs h t ih =>
  rw [List.map_cons,List.map_cons]
  refine .cons ?_ ih
  obtain ⟨h1,h2,h3⟩:=h
  unfold putAt
  by_cases e:p.1=k
  ·rw [if_pos e,if_pos (h1.symm.trans e)]; exact ⟨h1,h2,ry⟩
  ·rw [if_neg e,if_neg (fun z=>e (h1.trans z))]; exact ⟨h1,h2,h3⟩
theorem KT.put {H:Hp} {kvs:List (List Key×V)} {xs:List (List Key×Addr×Value)} (r:KT H kvs xs) (k:List Key) {b:Addr} {y:V} {u:Value} (hb:H b=some (.tup (k.map kV))) (ry:RelV y u) :
  KT H (putK kvs k y) (storedH xs k b u):=by
 have e:(kvs.any fun kv=>decide (kv.1=k))=(atKey xs k).isSome:=by
  rw [X4,(r.val k).isSome_eq,Option.isSome_map]
 unfold putK storedH
 rw [e]
 by_cases q:(atKey xs k).isSome=true
 ·rw [if_pos q,if_pos q]; exact r.repl k ry
 ·rw [if_neg q,if_neg q]; exact Paired.snoc r ⟨rfl,hb,ry⟩
theorem KT.keeps {H H':Hp} {kvs:List (List Key×V)} {xs:List (List Key×Addr×Value)} (r:KT H kvs xs) (ht:∀ b ys,H b=some (.tup ys)→H' b=some (.tup ys)):KT H' kvs xs :=
 Paired.mapP r fun _ _ z=>⟨z.1,ht _ _ z.2.1,z.2.2⟩
section
variable {P:Program} {w:World} {H:Hp} {h:Heap} {a:Addr}
theorem rd_of {u:HO} (ok:HOk P w H h) (e:Rd H a u):ObjOk P w H h a u:=e.ok ok
theorem dk_rd {kvs:List (Key×V)} (ok:HOk P w H h) (e:Rd H a (.dK kvs)):kvs.length≤sizeLine∧(a == sysModules)=false∧∃ vs,KV kvs vs∧h.DictOf (Vd P w) a vs :=
 show ObjOk P w H h a (.dK kvs) from rd_of ok e
theorem dk_of {kvs:List (Key×V)} (ok:HOk P w H h) (e:H a=some (.dK kvs)):kvs.length≤sizeLine∧(a == sysModules)=false∧∃ vs,KV kvs vs∧h.DictOf (Vd P w) a vs:=dk_rd ok (.inl e)
theorem Zax {ks:List Key} (ok:HOk P w H h) (e:H a=some (.tup (ks.map kV))):(tupleKind (Vd P w)).is h ks a:=by
 obtain ⟨_,its,r,o,h1,h2,n,h3,_⟩:=(show ObjOk P w H h a (.tup (ks.map kV)) from ok a _ e)
 exact ⟨o,its.toArray,n,h1,h2,h3,by simpa using Vax r⟩
theorem dt_rd {kvs:List (List Key×V)} (ok:HOk P w H h) (e:Rd H a (.dT kvs)):kvs.length≤sizeLine∧(a == sysModules)=false ∧
  ∃ xs,KT H kvs xs∧h.DictOfH (tupleKind (Vd P w)) a xs:=by
 obtain ⟨z,y,xs,r,o,es,ep,h1,h2,h3,h4,h5⟩:=(show ObjOk P w H h a (.dT kvs) from rd_of ok e)
 refine ⟨z,y,xs,r,o,es,ep,h1,h2,h3,h4,fun x hx=>?_,h5⟩
 have all:∀ {l:List (List Key×V)} {m:List (List Key×Addr×Value)},KT H l m→∀ x∈m,(tupleKind (Vd P w)).is h x.1 x.2.1:=by
  intro l m q
  induction q with
  | nil=>intro x hx; exact nomatch hx
  | @cons p q ps qs hq t ih =>
   intro x hx
   rcases List.mem_cons.mp hx with e | hx
   ·subst e
    exact Zax ok (by rw [← hq.1]; exact hq.2.1)
   ·exact ih x hx
 exact all r x hx
theorem dt_of {kvs:List (List Key×V)} (ok:HOk P w H h) (e:H a=some (.dT kvs)):kvs.length≤sizeLine∧(a == sysModules)=false ∧
  ∃ xs,KT H kvs xs∧h.DictOfH (tupleKind (Vd P w)) a xs:=dt_rd ok (.inl e)
end
noncomputable def DGet (H:Hp) (a:Addr) (y:V) (r:Option V):Prop :=
 (∃ kvs k,Rd H a (.dK kvs)∧y=kV k∧r=valV kvs k)∨∃ kvs k b,Rd H a (.dT kvs)∧y = .ref b∧H b=some (.tup (k.map kV))∧r=valV kvs k
noncomputable def DPut (H:Hp) (a:Addr) (y v:V) (H':Hp):Prop :=
 (∃ kvs k,H a=some (.dK kvs)∧y=kV k∧kvs.length < sizeLine∧H'=upd H a (.dK (putK kvs k v))) ∨
 ∃ kvs k b,H a=some (.dT kvs)∧y = .ref b∧H b=some (.tup (k.map kV))∧kvs.length < sizeLine∧H'=upd H a (.dT (putK kvs k v))
theorem DGet.k {H:Hp} {a:Addr} {kvs:List (Key×V)} {k:Key} (e:H a=some (.dK kvs)):DGet H a (kV k) (valV kvs k):=.inl ⟨kvs,k,.inl e,rfl,rfl⟩
theorem DGet.t {H:Hp} {a b:Addr} {kvs:List (List Key×V)} {k:List Key} (e:H a=some (.dT kvs)) (eb:H b=some (.tup (k.map kV))):DGet H a (.ref b) (valV kvs k):=.inr ⟨kvs,k,b,.inl e,rfl,eb,rfl⟩
theorem DPut.k {H:Hp} {a:Addr} {kvs:List (Key×V)} {k:Key} {v:V} (e:H a=some (.dK kvs)) (hl:kvs.length < sizeLine):DPut H a (kV k) v (upd H a (.dK (putK kvs k v))):=.inl ⟨kvs,k,e,rfl,hl,rfl⟩
theorem DPut.t {H:Hp} {a b:Addr} {kvs:List (List Key×V)} {k:List Key} {v:V} (e:H a=some (.dT kvs)) (eb:H b=some (.tup (k.map kV))) (hl:kvs.length < sizeLine) :
  DPut H a (.ref b) v (upd H a (.dT (putK kvs k v))):=.inr ⟨kvs,k,b,e,rfl,eb,hl,rfl⟩
section
variable {X:Cx} {pins:List (Addr×Obj)} {σ:St} {H:Hp} {s:Shared} {a:Addr} {y v:V} {u r:Value} {o:Option V} {A:Around} {E:Value→Shared→Prop}
theorem Inv.big (I:Inv X pins σ H s):sysModules < s.heap.objs.size:=by
 have h:mainGlobals < s.heap.objs.size:=(I.mod.glob.keeps I.bk).lt
 exact Nat.lt_trans (by decide) h
theorem d_in {Q:Value→Shared→Prop} (hu:A.units + 1 < cLine) (I:Inv X pins σ H s) (g:DGet H a y o) (ry:RelV y u) (h:∀ s',Inv X pins σ H s'→Q (.bool o.isSome) s') :
  wpAny (model X.prog X.w) A (compareOp .In u (.ref a)) Q E s:=by
 rcases g with ⟨kvs,k,e,ey,l⟩ | ⟨kvs,k,b,e,ey,eb,l⟩
 ·subst ey
  obtain ⟨z,hd,vs,rel,dd⟩:=dk_rd I.hok e
  refine wpAny_in_of (kV_is ry) hd dd.mapOf ?_
  rw [← (rel.val k).isSome_eq,← l]
  exact h _ (I.tok _)
 ·subst ey
  cases (show u=Value.ref b from ry)
  obtain ⟨z,hd,xs,rel,dd⟩:=dt_rd I.hok e
  refine wpAny_in_heap (tupleKind_room_in1 hu) (Zax I.hok eb) hd dd ?_
  have q:=(rel.val k).isSome_eq
  rw [Option.isSome_map] at q
  rw [← q,← l]
  exact h _ (I.tok _)
theorem d_notIn {Q:Value→Shared→Prop} (hu:A.units + 1 < cLine) (I:Inv X pins σ H s) (g:DGet H a y o) (ry:RelV y u) (h:∀ s',Inv X pins σ H s'→Q (.bool (!o.isSome)) s') :
  wpAny (model X.prog X.w) A (compareOp .NotIn u (.ref a)) Q E s:=by
 rcases g with ⟨kvs,k,e,ey,l⟩ | ⟨kvs,k,b,e,ey,eb,l⟩
 ·subst ey
  obtain ⟨z,hd,vs,rel,dd⟩:=dk_rd I.hok e
  refine wpAny_notIn_of (kV_is ry) hd dd.mapOf ?_
  rw [← (rel.val k).isSome_eq,← l]
  exact h _ (I.tok _)
 ·subst ey
  cases (show u=Value.ref b from ry)
  obtain ⟨z,hd,xs,rel,dd⟩:=dt_rd I.hok e
  refine wpAny_notIn_heap (tupleKind_room_in1 hu) (Zax I.hok eb) hd dd ?_
  have q:=(rel.val k).isSome_eq
  rw [Option.isSome_map] at q
  rw [← q,← l]
  exact h _ (I.tok _)
theorem Yao {h':Heap} {t':Nat} {ob:HO} (I:Inv X pins σ H s) (mu:Mut (H a)) (hs:Heap.SameBut a s.heap h') (he:∃ q,h'.get? a=some q) (new:ObjOk X.prog X.w (upd H a ob) h' a ob) :
  Inv X pins σ (upd H a ob) { s with heap:=h',toks:=t' } :=
 I.write (x:=a) (e:=a) mu (.inl rfl) (fun b q hb z=>(hs.2 b hb).trans z) he new
theorem dk_new {P:Program} {w:World} {H':Hp} {h':Heap} {kvs:List (Key×V)} {vs:List (Key×Value)} (z:kvs.length≤sizeLine) (hd:(a == sysModules)=false) (rel:KV kvs vs) (dd:h'.DictOf (Vd P w) a vs) :
  ObjOk P w H' h' a (.dK kvs):=⟨z,hd,vs,rel,dd⟩
theorem d_setItem {H':Hp} {Q:Unit→Shared→Prop} (hu:A.units + 1 < cLine) (I:Inv X pins σ H s) (g:DPut H a y v H') (ry:RelV y u) (rv:RelV v r) (h:∀ s',Inv X pins σ H' s'→Q () s') :
  wpAny (model X.prog X.w) A (setItem (.ref a) u r) Q E s:=by
 rcases g with ⟨kvs,k,e,ey,l,eH⟩ | ⟨kvs,k,b,e,ey,eb,l,eH⟩
 ·subst ey eH
  obtain ⟨z,hd,vs,rel,dd⟩:=dk_of I.hok e
  have hz:vs.length≤sizeLine:=by rw [← rel.length]; exact z
  have hl:(putK kvs k v).length≤sizeLine:=by have:=Wt kvs k v; omega
  refine wpAny_setItem_pairs (hsz:=hz) (kV_is ry) dd fun h' dd' hs=>h _ ?_
  have he:∃ q,h'.get? a=some q:=let ⟨q,_,_,hq,_⟩:=dd'; ⟨q,hq⟩
  exact Yao I (by rw [e]; exact True.intro) hs he (dk_new hl hd (rel.put k rv) dd')
 ·subst ey eH
  cases (show u=Value.ref b from ry)
  obtain ⟨z,hd,xs,rel,dd⟩:=dt_of I.hok e
  have hz:xs.length≤sizeLine:=by rw [← Paired.length rel]; exact z
  have hl:(putK kvs k v).length≤sizeLine:=by have:=Wt kvs k v; omega
  refine wpAny_setItem_heap (hsz:=hz) (tupleKind_room_in1 hu) (Zax I.hok eb) dd fun h' dd' hs=>h _ ?_
  obtain ⟨q,es,ep,hq,h2,h3,h4,_,h5⟩:=dd'
  refine Yao I (by rw [e]; exact True.intro) hs ⟨q,hq⟩ ⟨hl,hd,_,(rel.put k eb rv).keeps fun c ys ec=>?_,q,es,ep,hq,h2,h3,h4,h5⟩
  rw [Va (ne_of ec e (fun z=>nomatch z))]
  exact ec
end
section
variable {X:Cx} {pins:List (Addr×Obj)} {σ:St} {H:Hp} {s:Shared} {a:Addr} {kvs:List (Key×V)} {k:Key} {u:Value} {A:Around} {E:Value→Shared→Prop}
theorem d_len {Q:Value→Shared→Prop} (I:Inv X pins σ H s) (e:Rd H a (.dK kvs)) (h:∀ t s',Inv X pins σ H s'→Q (.int kvs.length t) s'):wpAny (model X.prog X.w) A (call (.builtin "len") [.ref a]) Q E s:=by
 obtain ⟨z,hd,vs,rel,dd⟩:=dk_rd I.hok e
 refine call_len_dict hd dd (by rw [← rel.length]; rw [sizeLine_eq] at z; omega) ?_
 rw [← rel.length]
 exact h _ _ (I.tok _)
end
noncomputable def sDPut (td ty tv:TE):TS:=fun D σ H=>tv σ H fun v H1=>td σ H1 fun x H2=>ty σ H2 fun y H3=>∃ a H4,x = .ref a∧DPut H3 a y v H4∧D.nx σ H4
section
variable {X:Cx} {o i e value:Expr} {pos pos' tpos:Pos} {td ty tv:TE}
theorem ps_dput (hu:X.A.units + 1 < cLine) (ho:PE X o td) (hi:PE X i ty) (hv:PE X value tv) (hs:swapsWith value (some (.Subscript o i pos')) pos.line X.env=pure false) :
  PS X (.Assign [.Subscript o i pos'] value pos) (sDPut td ty tv):=by
 intro pins s σ H D I h
 refine wpAny_Assign_Subscript (thn (hv pins s σ H _ I h) fun r s1 ⟨v,H1,I1,rv,q1⟩=>thn (ho pins s1 σ H1 _ I1 q1) fun u s2 ⟨x,H2,I2,rx,q2⟩=>thn (hi pins s2 σ H2 _ I2 q2) fun iv s3 ⟨y,H3,I3,ry,a,H4,ex,g,q3⟩=>?_) hs
 subst ex
 obtain rfl:u=Value.ref a:=rx
 exact d_setItem hu I3 g ry rv fun s4 I4=>⟨σ,H4,I4,q3⟩
end
theorem dk_empty {P:Program} {w:World} {H:Hp} (h:Heap) (hb:sysModules < h.objs.size):ObjOk P w H (h.push { cls:=.type "dict",data:=.dict #[] }) h.objs.size (.dK []) :=
 ⟨Nat.zero_le _,beq_eq_false_iff_ne.mpr (Ne.symm (Nat.ne_of_lt hb)),[],.nil,Heap.DictOf.new h⟩
theorem dt_empty {P:Program} {w:World} {H:Hp} (h:Heap) (hb:sysModules < h.objs.size):ObjOk P w H (h.push { cls:=.type "dict",data:=.dict #[] }) h.objs.size (.dT []) :=
 ⟨Nat.zero_le _,beq_eq_false_iff_ne.mpr (Ne.symm (Nat.ne_of_lt hb)),[],.nil,_,#[],0,Heap.get?_push_size _ rfl,⟨rfl,rfl,rfl⟩,rfl,rfl,List.nodup_nil⟩
noncomputable def tDNewK:TE:=fun _ H Q=>∀ p,H p=none→Q (.ref p) (upd H p (.dK []))
noncomputable def tDNewT:TE:=fun _ H Q=>∀ p,H p=none→Q (.ref p) (upd H p (.dT []))
section
variable {X:Cx} {pos:Pos}
theorem pe_dnewK:PE X (.Dict [] [] pos) tDNewK:=fun pins s σ H Q I h =>
 wpAny_Dict_empty ⟨.ref s.heap.objs.size,_,I.laid (a:=s.heap.objs.size) (o:=.dK []) (t':=s.toks) (fun _ _ q=>Heap.get?_push_of_some _ q) (Nat.le_refl _) (dk_empty s.heap I.big),rfl,h _ (I.hok.fresh (Nat.le_refl _))⟩
theorem pe_dnewT:PE X (.Dict [] [] pos) tDNewT:=fun pins s σ H Q I h =>
 wpAny_Dict_empty ⟨.ref s.heap.objs.size,_,I.laid (a:=s.heap.objs.size) (o:=.dT []) (t':=s.toks) (fun _ _ q=>Heap.get?_push_of_some _ q) (Nat.le_refl _) (dt_empty s.heap I.big),rfl,h _ (I.hok.fresh (Nat.le_refl _))⟩
end
noncomputable def Wbd:List (TE×TE)→St→Hp→(List (V×V)→Hp→Prop)→Prop
 | [],_,H,Q=>Q [] H
 | (tk,tv) :: r,σ,H,Q=>tk σ H fun x H1=>tv σ H1 fun y H2=>Wbd r σ H2 fun ps H3=>Q ((x,y) :: ps) H3
noncomputable abbrev VV:List (V×V)→List (Value×Value)→Prop:=Paired fun p q=>RelV p.1 q.1∧RelV p.2 q.2
noncomputable def PPs (X:Cx) (pos:Pos) (keys:List (Option Expr)) (values:List Expr) (trs:List (TE×TE)):Prop :=
 ∀ (pins:List (Addr×Obj)) (s:Shared) (σ:St) (H:Hp) (Q:List (V×V)→Hp→Prop),Inv X pins σ H s→Wbd trs σ H Q →
  wpAny (model X.prog X.w) X.A (evalPairs (pairTrees keys values X.env pos)) (fun vs s'=>∃ ps H',Inv X pins σ H' s'∧VV ps vs∧Q ps H') X.xe s
theorem pps_nil {X:Cx} {pos:Pos}:PPs X pos [] [] []:=fun pins s σ H Q I h=>pairTrees_nil_walk ⟨[],H,I,.nil,h⟩
theorem Xbf {X:Cx} {pos:Pos} {k v:Expr} {ks:List (Option Expr)} {vs:List Expr} {tk tv:TE} {trs:List (TE×TE)} (hk:PE X k tk) (hv:PE X v tv) (hr:PPs X pos ks vs trs) :
  PPs X pos (some k :: ks) (v :: vs) ((tk,tv) :: trs):=fun pins s σ H Q I h =>
 pairTrees_cons_walk (thn (hk pins s σ H _ I h) fun u s1 ⟨x,H1,I1,rx,q1⟩=>thn (hv pins s1 σ H1 _ I1 q1) fun w2 s2 ⟨y,H2,I2,ry,q2⟩ =>
  thn (hr pins s2 σ H2 _ I2 q2) fun ws s3 ⟨ps,H3,I3,rel,q3⟩=>⟨(x,y) :: ps,H3,I3,.cons ⟨rx,ry⟩ rel,q3⟩)
noncomputable def Z9 (kvs more:List (Key×V)):List (Key×V):=more.foldl (fun acc kv=>putK acc kv.1 kv.2) kvs
theorem KV.merge:∀ {more:List (Key×V)} {rs:List (Key×Value)} {kvs:List (Key×V)} {vs:List (Key×Value)},KV more rs→KV kvs vs→KV (Z9 kvs more) (merged vs rs):=by
 intro more rs kvs vs r
 unfold KV at r
 induction r generalizing kvs vs with
 | nil=>intro q; exact q
 | @cons p q ps qs h t ih =>
  intro r0
  have e:KV (putK kvs p.1 p.2) (stored vs q.1 q.2):=by
   have:=r0.put p.1 h.2
   rw [← h.1]; exact this
  exact ih e
theorem Wv:∀ (more kvs:List (Key×V)),(Z9 kvs more).length≤kvs.length + more.length
 | [],kvs=>by show kvs.length≤kvs.length + 0; omega
 | p :: r,kvs=>by
  have h1:=Wv r (putK kvs p.1 p.2)
  have h2:=Wt kvs p.1 p.2
  show (Z9 (putK kvs p.1 p.2) r).length≤_
  rw [List.length_cons]; omega
theorem Yah {P:Program} {w:World}:∀ {kvs:List (Key×V)} {ws:List (Value×Value)},VV (kvs.map fun kv=>(kV kv.1,kv.2)) ws→∃ rs,Carries (Vd P w) ws rs∧KV kvs rs
 | [],_,r=>by rw [List.map_nil] at r; cases r; exact ⟨[],True.intro,.nil⟩
 | p :: kvs,_,r=>by
  rw [List.map_cons] at r
  cases r with
  | @cons a b as bs h t =>
   obtain ⟨rs,c,q⟩:=Yah (P:=P) (w:=w) t
   obtain ⟨b1,b2⟩:=b
   exact ⟨(p.1,b2) :: rs,⟨kV_is h.1,rfl,c⟩,.cons ⟨rfl,h.2⟩ q⟩
noncomputable def tDisp (trs:List (TE×TE)):TE:=fun σ H Q=>∀ p,H p=none→Wbd trs σ (upd H p (.dK [])) fun ps H2=>H2 p=some (.dK [])∧∃ kvs:List (Key×V),ps=kvs.map (fun kv=>(kV kv.1,kv.2))∧kvs.length≤15∧Q (.ref p) (upd H2 p (.dK (Z9 [] kvs)))
theorem pe_disp {X:Cx} {pos:Pos} {keys:List (Option Expr)} {values:List Expr} {trs:List (TE×TE)} (h:PPs X pos keys values trs) (hall:keys.all (·.isSome)=true) (hl:keys.length=values.length) (h0:keys≠[])
  (h15:keys.length≤15):PE X (.Dict keys values pos) (tDisp trs):=by
 intro pins s σ H Q I q
 have hn:=I.hok.fresh (Nat.le_refl s.heap.objs.size)
 have I1:=I.laid (a:=s.heap.objs.size) (o:=.dK []) (h':=s.heap.push { cls:=.type "dict",data:=.dict #[] }) (t':=s.toks) (fun _ _ q=>Heap.get?_push_of_some _ q) (Nat.le_refl _) (dk_empty s.heap I.big)
 refine wpAny_Dict_walk (knd:=Vd X.prog X.w) hall hl h0 h15 (thn (h pins _ σ _ _ I1 (q _ hn)) fun ws s2 ⟨ps,H2,I2,rel,e,kvs,ep,lk,q2⟩=>?_)
 subst ep
 obtain ⟨rs,c,rk⟩:=Yah (P:=X.prog) (w:=X.w) rel
 obtain ⟨z,hd,vs0,r0,dd⟩:=dk_of I2.hok e
 cases r0
 refine ⟨rs,c,dd,fun h' dd' hs=>⟨.ref s.heap.objs.size,_,?_,rfl,q2⟩⟩
 have hz:(Z9 [] kvs).length≤sizeLine:=by
  have h1:=Wv kvs []
  rw [List.length_nil] at h1
  rw [sizeLine_eq]; omega
 have he:∃ q,h'.get? s.heap.objs.size=some q:=let ⟨q,_,_,hq,_⟩:=dd'; ⟨q,hq⟩
 exact Yao I2 (by rw [e]; exact True.intro) hs he (dk_new hz hd (rk.merge .nil) dd')
section
variable {X:Cx} {pins:List (Addr×Obj)} {σ:St} {H:Hp} {s:Shared} {a:Addr} {y d:V} {u r:Value} {o:Option V} {A:Around} {E:Value→Shared→Prop}
end
section
variable {X:Cx} {o e f:Expr} {apos cpos:Pos} {td ty tx:TE}
end
section
variable {X:Cx} {pins:List (Addr×Obj)} {σ:St} {H:Hp} {s:Shared} {a:Addr} {kvs:List (Key×V)} {A:Around} {E:Value→Shared→Prop}
end
section
variable {X:Cx} {pins:List (Addr×Obj)} {σ:St} {H:Hp} {s:Shared} {a:Addr} {y:V} {u:Value} {A:Around} {E:Value→Shared→Prop}
end
end L2
end
section
set_option autoImplicit false
set_option maxHeartbeats 2000000
namespace DW
open PySem PySem.Spec PyProof.Rows L2
noncomputable def TrX (B:Heap) (e:Addr) (ob:Obj) (vs:Array Value) (fl:Value) (h:Heap):Prop :=
 ∃ T oT ts,h.get? e=some { ob with data:=.fields (vs.setIfInBounds 1 (.ref T)) }∧B.get? T=none∧T≠e∧h.get? T=some oT∧oT.data = .fields ts∧ts[3]? = some fl
structure FlyX (B:Heap) (l:List Env) (e:Addr) (ob:Obj) (vs:Array Value) (fl:Value) (h:Heap):Prop where
 stay:B.StaysIn h
 new:B.get? e=none
 fun_:h.FunFrames B l
 tr:TrX B e ob vs fl h
 two:2 < vs.size
theorem TrX.there {B h:Heap} {e:Addr} {ob:Obj} {vs:Array Value} {fl:Value} (x:TrX B e ob vs fl h):∃ T,h.get? e=some { ob with data:=.fields (vs.setIfInBounds 1 (.ref T)) }:=let ⟨T,_,_,q,_⟩:=x; ⟨T,q⟩
theorem Vae {h:Heap} {b e:Addr} {o oe:Obj} {vs:Array Value} (hb:h.get? b=some o) (hn:∀ vs,o.data≠.fields vs) (he:h.get? e=some oe) (hd:oe.data = .fields vs):b≠e:=fun z=>by
 subst z; rw [hb] at he; cases he; exact hn vs hd
theorem out_ne {B:Heap} {b e:Addr} {o:Obj} (hb:B.get? b=some o) (he:B.get? e=none):b≠e:=fun z=>by subst z; rw [hb] at he; cases he
section
variable {M:Model} {A:Around} {E:Value→Shared→Prop} {s:Shared} {B:Heap} {env:Env} {outer:List Env} {L e:Addr} {ob:Obj} {ws vs:Array Value} {Q:Unit→Shared→Prop}
theorem Xi {h:Heap} {a:Addr} {f:Obj→Obj}:∀ b,b≠a→(h.update a f).get? b=h.get? b:=fun b hb=>Heap.get?_update_other _ _ (Ne.symm hb)
theorem entry_x {hd:Value} {hn:Bool} (fr:A.frames=some (env :: outer)) (F:s.heap.FunFrames B (env :: outer)) (hf:env.frame=some L) (he:s.heap.get? e=some { ob with data:=.fields ws }) (st:B.StaysIn s.heap) (new:B.get? e=none)
  (z:2 < ws.size) (k:∀ h',FlyX B (env :: outer) e ob ws (rawInt L) h'→s.heap.UpToSlots h'→Q () { s with heap:=h' }) :
  wpAny M A (do let a ← frameOf env; let pl ← entryPlaceOf L hn; let b ← EntryCells.newEntry hd a .none (rawInt L) .none pl; setField (.ref e) 1 b) Q E s:=by
 have eo:e ∉ (env :: outer).filterMap (·.frame):=fun m=>let ⟨_,o,ho,nf⟩:=F.mem m; by rw [he] at ho; cases ho; exact nf ws rfl
 refine wpAny_bind (wpAny_frameOf_fun fr F hf fun g1 sl1=>wpAny_bind (wpAny_entryPlaceOf fun pl ip=>?_))
 unfold EntryCells.newEntry newFields
 refine wpAny_bind (wpAny_newObj_type ?_ (ip.sizeOk5 _ _ _ _ _))
 have e1:g1.get? e=some { ob with data:=.fields ws }:=by rw [sl1.2.1 e eo]; exact he
 have st1:B.StaysIn g1:=fun b o q=>by
  rw [sl1.2.1 b fun m=>(by rw [(F.mem m).1] at q; cases q)]; exact st b o q
 generalize hN:({ cls:=.type "traceback",dict:=none,data:=.fields ([hd,.ref L,.none,rawInt L,.none] ++ (if pl.isEmpty then List.replicate 6 Value.none else pl)).toArray }:Obj)=N
 have dN:N.data = .fields ([hd,.ref L,.none,rawInt L,.none] ++ (if pl.isEmpty then List.replicate 6 Value.none else pl)).toArray:=by rw [← hN]
 have nN:N.isFreed=false:=by rw [← hN]; rfl
 have lt:=Heap.lt_size e1
 have Te:g1.objs.size≠e:=Nat.ne_of_gt lt
 refine wpAny_setField (Heap.get?_push_of_some (h:=g1) N e1) rfl (by omega) (k _ ⟨?_,new,?_,?_,z⟩ ?_)
 ·intro b o q
  rw [Xi b (out_ne q new)]
  exact Heap.get?_push_of_some _ (st1 b o q)
 ·refine F.of_keeps fun b o hb nf=>?_
  obtain ⟨sl,q⟩:=sl1.2.2 b o hb
  exact ⟨{ o with slots:=sl },by rw [Xi b (Vae hb nf he rfl)]; exact Heap.get?_push_of_some _ q,rfl⟩
 ·refine ⟨g1.objs.size,N,_,Heap.get?_update_self _ (Heap.get?_push_of_some (h:=g1) N e1) rfl,st1.fresh,Te,?_,dN,?_⟩
  ·rw [Xi _ Te]; exact Heap.get?_push_size g1 nN
  ·rcases ip with rfl | ⟨_,_,_,_,_,_,_,rfl⟩ <;> simp
 ·intro b o hb nf
  obtain ⟨sl,q⟩:=sl1.2.2 b o hb
  exact ⟨sl,by rw [Xi b (Vae hb nf he rfl)]; exact Heap.get?_push_of_some _ q⟩
theorem set_at {x:Value} (z:2 < ws.size):(ws.setIfInBounds 1 x)[1]? = some x:=by
 rw [Array.getElem?_setIfInBounds]
 simp; omega
theorem set_same {x y:Value}:(ws.setIfInBounds 1 x).setIfInBounds 1 y=ws.setIfInBounds 1 y:=by simp
theorem note_x (fr:A.frames=some (env :: outer)) (F:s.heap.FunFrames B (env :: outer)) (hf:env.frame=some L) (he:s.heap.get? e=some { ob with data:=.fields ws }) (st:B.StaysIn s.heap) (new:B.get? e=none) (z:2 < ws.size)
  (h1:ws[1]? = some .none∨∃ T oT ts,ws[1]? = some (.ref T)∧B.get? T=none∧T≠e∧s.heap.get? T=some oT∧oT.data = .fields ts∧ts[3]? = some .none)
  (k:∀ h',FlyX B (env :: outer) e ob ws (rawInt L) h'→s.heap.UpToSlots h'→Q () { s with heap:=h' }):wpAny M A (noteFrame (.ref e) env) Q E s:=by
 unfold noteFrame
 simp only [hf]
 rcases h1 with h1 | ⟨T,oT,ts,h1,nT,ne,hT,dT,h3⟩
 ·refine wpAny_bind (wpAny_field he rfl h1 ?_)
  rw [if_neg (by decide)]
  exact entry_x fr F hf he st new z k
 ·refine wpAny_bind (wpAny_field he rfl h1 ?_)
  rw [if_pos (by simp:(Value.ref T != Value.none)=true)]
  refine wpAny_bind (wpAny_field hT dT h3 ?_)
  rw [if_neg (by simp [rawInt]:¬ (Value.none == rawInt L)=true)]
  refine wpAny_bind (wpAny_setField hT dT (Array.getElem?_eq_some_iff.mp h3).1 ?_)
  refine entry_x (s:={ s with heap:=s.heap.update T _ }) fr (F.of_keeps fun b o hb nf=>⟨o,by rw [Xi b (Vae hb nf hT dT)]; exact hb,rfl⟩) hf (by rw [Xi e (Ne.symm ne)]; exact he) (fun b o q=>by rw [Xi b (out_ne q nT)]; exact st b o q) new z fun h' x u=>k h' x ?_
  intro b o hb nf
  exact u b o (by rw [Xi b (Vae hb nf hT dT)]; exact hb) nf
theorem land_x {l:List Env} {fl:Value} (x:FlyX B l e ob vs fl s.heap) (k:∀ h',FlyX B l e ob vs .none h'→s.heap.UpToSlots h'→Q () { s with heap:=h' }):wpAny M A (setFlight (.ref e) none) Q E s:=by
 obtain ⟨st,new,F,⟨T,oT,ts,he,nT,ne,hT,dT,h3⟩,z⟩:=x
 unfold setFlight
 have z3:=(Array.getElem?_eq_some_iff.mp h3).1
 refine wpAny_bind (wpAny_field he rfl (x:=.ref T) (set_at z) ?_)
 rw [if_pos (by simp:(Value.ref T != Value.none)=true)]
 obtain ⟨c,d,dt,sl⟩:=oT
 cases dT
 refine wpAny_setField hT rfl z3 (k _ ⟨fun b o q=>by rw [Xi b (out_ne q nT)]; exact st b o q,new,F.of_keeps fun b o hb nf=>⟨o,by rw [Xi b (Vae hb nf hT rfl)]; exact hb,rfl⟩,⟨T,_,_,by rw [Xi e (Ne.symm ne)]; exact he,nT,ne,Heap.get?_update_self _ hT rfl,rfl,by simp [z3]⟩,z⟩ fun b o hb nf=>⟨o.slots,by rw [Xi b (Vae hb nf hT rfl)]; exact hb⟩)
theorem leave_x (fr:A.frames=some (env :: outer)) (F:s.heap.FunFrames B (env :: outer)) (hf:env.frame=some L) (he:s.heap.get? e=some { ob with data:=.fields ws }) (st:B.StaysIn s.heap) (new:B.get? e=none) (z:2 < ws.size)
  (h1:ws[1]? = some .none∨∃ T oT ts,ws[1]? = some (.ref T)∧B.get? T=none∧T≠e∧s.heap.get? T=some oT∧oT.data = .fields ts∧ts[3]? = some .none)
  (k:∀ h',FlyX B outer e ob ws .none h'→s.heap.UpToSlots h'→Q () { s with heap:=h' }):wpAny M A (leaving env (.ref e)) Q E s:=by
 unfold leaving
 refine wpAny_bind (note_x fr F hf he st new z h1 fun h' x u=>land_x (s:={ s with heap:=h' }) x fun h2 y v=>k h2 ⟨y.stay,y.new,?_,y.tr,y.two⟩ (u.trans v))
 obtain ⟨_,_,q⟩:=y.fun_
 exact q
theorem TrX.re {x:Value} {h:Heap} {fl:Value} (y:TrX B e ob (vs.setIfInBounds 1 x) fl h):TrX B e ob vs fl h:=by
 obtain ⟨T,oT,ts,he,r⟩:=y
 rw [set_same] at he
 exact ⟨T,oT,ts,he,r⟩
theorem FlyX.re {l:List Env} {x:Value} {h:Heap} {fl:Value} (y:FlyX B l e ob (vs.setIfInBounds 1 x) fl h):FlyX B l e ob vs fl h:=⟨y.stay,y.new,y.fun_,y.tr.re,by have:=y.two; simpa using this⟩
theorem leave_on (fr:A.frames=some (env :: outer)) (hf:env.frame=some L) (x:FlyX B (env :: outer) e ob vs .none s.heap) (k:∀ h',FlyX B outer e ob vs .none h'→s.heap.UpToSlots h'→Q () { s with heap:=h' }) :
  wpAny M A (leaving env (.ref e)) Q E s:=by
 obtain ⟨T,oT,ts,he,r⟩:=x.tr
 have z:=x.two
 exact leave_x fr x.fun_ hf he x.stay x.new (by simpa using z) (.inr ⟨T,oT,ts,set_at z,r⟩) fun h' y u=>k h' y.re u
end
end DW
end
section
set_option autoImplicit false
namespace DW
open PySem PySem.StrLaws PySem.Builtin PySem.Builtin.Str
end DW
end
section
set_option autoImplicit false
namespace DW
open PySem
noncomputable abbrev DKey:=Sum Int (List Nat)
inductive D where
 | non | bl (b:Bool) | int (i:Int) | str (x:List Nat)
 | tup (ds:List D) | lst (ds:List D) | ro (ds:List D) | loc (n:Nat) | dic (ks:List DKey) (ds:List D) | fdc (ks:List DKey) (ds:List D)
inductive Cell where
 | lst (ds:List D) | ins (c:String) (fs:List (String×D)) | dic (ks:List DKey) (ds:List D) | dtc (ks:List (List DKey)) (ds:List D) | fdt (o:Obj) (ks:List (List DKey)) (ds:List D) | exc (c:String) (ks:List String) (ds:List D) | gone
noncomputable abbrev Mem:=List Cell
noncomputable abbrev Rho:=List (Option D)
noncomputable abbrev QD:=D→Mem→Prop
noncomputable abbrev DSp:=List D→Mem→QD→Prop
noncomputable abbrev QX:=String→List String→List D→Mem→Prop
noncomputable abbrev DSpX:=List D→Mem→QD→QX→Prop
mutual
inductive E where
 | var (i:Nat) | cst (d:D)
 | bin (op:Operator) (a b:E) | neg (a:E) | not (a:E)
 | cmp (op:CmpOp) (a b:E) | cmpX (a b:E) (n:Bool:=false) | chain (p q:CmpOp) (a b c:E)
 | and (a b:E) | or (a b:E)
 | call (x:Str) (sp:DSp) (as:Es) | blt (x:String) (as:Es) | bltD (x:String) (a b:E)
 | isin (a:E) (t:String)
 | meth (m:String) (o:E) (as:Es)
 | idx (a b:E) | slc (m:Bool) (a:E) (lo hi:Es)
 | tup (as:Es) | lst (m:Bool) (as:Es) | dsp (ks:List DKey) (as:Es)
 | comp (m:Bool) (tg:Nat) (tt:Bool) (cap:List Nat) (elt:E) (it:It) (cond:Es)
 | frz (a:E) | lrng (m:Option Bool) (a:E) (r:Bool:=false)
 | dnew (t:Bool)
 | cat (m:Bool) (a b:E)
inductive Es where
 | nil | cons (e:E) (es:Es)
inductive It where
 | seq (e:E) | rng (as:Es)
end
mutual
inductive S where
 | set (i:Nat) (e:E) | setT (is:List Nat) (e:E)
 | dput (o i e:E) | augIx (op:Operator) (o i e:E) | setIx (o i e:E)
 | exp (e:E) | ret (e:E)
 | ite (c:E) (a b:Ss) | for_ (tg:List Nat) (tt:Bool) (it:It) (b:Ss) | whl (c:E) (b:Ss)
 | brk
 | nev
inductive Ss where
 | nil | cons (s:S) (r:Ss)
end
noncomputable def b2i (b:Bool):Int:=if b then 1 else 0
mutual
noncomputable def flat:Nat→D→Bool
 | _,.non=>true
 | _,.bl _=>true
 | _,.int _=>true
 | _,.str x=>x.all (· < 1114112)
 | n + 1,.tup ds=>flats n ds
 | n + 1,.lst ds=>flats n ds
 | _,_=>false
noncomputable def flats:Nat→List D→Bool
 | _,[]=>true
 | n,d :: ds=>flat n d && flats n ds
end
mutual
noncomputable def eqD:D→D→Bool
 | .non,e=>match e with | .non=>true | _=>false
 | .bl a,e=>match e with | .bl b=>a == b | .int j=>b2i a == j | _=>false
 | .int i,e=>match e with | .int j=>i == j | .bl b=>i == b2i b | _=>false
 | .str x,e=>match e with | .str y=>x == y | _=>false
 | .tup ds,e=>match e with | .tup es=>eqDs ds es | _=>false
 | .lst ds,e=>match e with | .lst es=>eqDs ds es | _=>false
 | .ro ds,_=>false
 | .loc _,_=>false
 | .dic ks ds,e=>match e with | .dic ls es=>decide (ks=ls) && eqDs ds es | _=>false
 | .fdc _ _,_=>false
noncomputable def eqDs:List D→List D→Bool
 | [],es=>es.isEmpty
 | d :: ds,es=>match es with | []=>false | e :: es=>eqD d e && eqDs ds es
end
noncomputable def ltCs:List Nat→List Nat→Bool
 | _,[]=>false
 | [],_ :: _=>true
 | x :: xs,y :: ys=>if x=y then ltCs xs ys else decide (x < y)
noncomputable def sc2:D→Bool
 | .int _=>true
 | .str _=>true
 | _=>false
mutual
noncomputable def ltD:D→D→Option Bool
 | .int i,e=>match e with | .int j=>some (decide (i < j)) | _=>none
 | .str x,e=>match e with | .str y=>some (ltCs x y) | _=>none
 | .tup ds,e=>match e with | .tup es=>if (ds.all sc2 && es.all sc2)=true then ltDs ds es else none | _=>none
 | _,_=>none
noncomputable def ltDs:List D→List D→Option Bool
 | [],es=>some (!es.isEmpty)
 | d :: ds,es=>match es with
  | []=>some false
  | e :: es=>if eqD d e then ltDs ds es else ltD d e
end
noncomputable abbrev Itm:=Int×List Nat
noncomputable def itD (x:Itm):D:=.tup [.int x.1,.str x.2]
noncomputable def lt2 (x y:Itm):Bool:=if x.1=y.1 then ltCs x.2 y.2 else decide (x.1 < y.1)
noncomputable def Yb (μ:Mem):D→Option (List D)
 | .lst ds=>some ds
 | .tup ds=>some ds
 | .ro ds=>some ds
 | .loc n=>match μ[n]? with | some (.lst ds)=>some ds | _=>none
 | _=>none
noncomputable def chars (x:List Nat):List D:=x.map fun c=>D.str [c]
noncomputable def lenOf (μ:Mem):D→Option Nat
 | .str x=>some x.length
 | d=>(Yb μ d).map (·.length)
noncomputable def Wm (μ:Mem):D→Option (List D)
 | .tup _=>none
 | d=>Yb μ d
noncomputable def truth (μ:Mem):D→Option Bool
 | .non=>some false
 | .bl b=>some b
 | .int i=>some (i != 0)
 | .dic ks _=>some (ks.length != 0)
 | d=>(lenOf μ d).map (· != 0)
noncomputable def isTy (have_ want:String):Bool:=have_ == want || (have_ == "bool" && want == "int")
noncomputable def tyOf (μ:Mem):D→Option String
 | .non=>some "NoneType" | .bl _=>some "bool" | .int _=>some "int" | .str _=>some "str"
 | .tup _=>some "tuple" | .lst _=>some "list" | .dic _ _=>some "dict" | .ro _=>none | .fdc _ _=>none
 | .loc n=>match μ[n]? with | some (.lst _)=>some "list" | some (.dic _ _)=>some "dict" | _=>none
noncomputable def Wx (t:String) (d:D) (μ:Mem) (Q:QD):Prop:=match tyOf μ d with
 | some h=>Q (.bl (isTy h t)) μ
 | none=>False
noncomputable def Zk (lo:Int) (n:Nat):List D:=(List.range n).map fun (k:Nat)=>D.int (lo + (k:Int))
noncomputable def ixD (n:Nat) (i:Int):Option Nat:=if 0≤i then (if i < n then some i.toNat else none) else if -(n:Int)≤i then some (i + n).toNat else none
noncomputable def sIxD (n d:Nat):Option Int→Nat
 | none=>d
 | some v=>if v < 0 then (v + (n:Int)).toNat else min v.toNat n
noncomputable def cutD {α:Type} (xs:List α) (lo hi:Option Int):List α:=(xs.drop (sIxD xs.length 0 lo)).take (sIxD xs.length xs.length hi - sIxD xs.length 0 lo)
noncomputable def lim:Nat:=16777216
noncomputable def newL (m:Bool) (ds:List D) (μ:Mem) (Q:QD):Prop:=match m with
 | true=>Q (.loc μ.length) (μ ++ [.lst ds])
 | false=>Q (.lst ds) μ
noncomputable def wRvl:Option Bool→D→Mem→QD→Prop
 | some m,d,μ,Q=>(match Wm μ d with | some as=>newL m as.reverse μ Q | none=>False)
 | none,d,μ,Q=>(match d with | .tup ds=>Q (.tup ds.reverse) μ | _=>False)
noncomputable def lrM (r:Bool):String:=if r then "reversed" else "range"
noncomputable def lrN:Option Bool→String
 | some _=>"list"
 | none=>"tuple"
noncomputable def CMulD (i j:Int):Prop:=(-(2 ^ 64) < i∧i < 2 ^ 64)∨(-(2 ^ 64) < j∧j < 2 ^ 64)
noncomputable def CDivD (j:Int):Prop:=0 < j∧j < 2 ^ 500
noncomputable def CPowD (i j:Int):Prop:=0≤j∧j≤1000000∧i.natAbs < 2 ^ 64
noncomputable def wBin (op:Operator) (x y:D) (μ:Mem) (Q:QD):Prop :=
 match x,y with
 | .int i,.int j=>match op with
  | .Add=>Q (.int (i + j)) μ
  | .Sub=>Q (.int (i - j)) μ
  | .Mult=>CMulD i j∧Q (.int (i * j)) μ
  | .FloorDiv=>CDivD j∧Q (.int (i / j)) μ
  | .Mod=>0 < j∧Q (.int (i % j)) μ
  | .Pow=>CPowD i j∧Q (.int (i ^ j.toNat)) μ
  | .LShift=>(0≤j∧j≤1000∧i.natAbs < 2 ^ 64)∧Q (.int (i * 2 ^ j.toNat)) μ
  | .RShift=>0≤j∧Q (.int (i / 2 ^ j.toNat)) μ
  | .BitAnd=>(0≤i∧j=1)∧Q (.int (i % 2)) μ
  | _=>False
 | .str a,.str b=>match op with
  | .Add=>a.length + b.length≤lim∧Q (.str (a ++ b)) μ
  | _=>False
 | .str a,.int k=>match op with
  | .Mult=>(2≤k∧k≤1000∧1≤a.length∧a.length≤1000)∧Q (.str (List.replicate k.toNat a).flatten) μ
  | _=>False
 | .lst a,.lst b=>match op with
  | .Add=>a.length + b.length≤lim∧Q (.lst (a ++ b)) μ
  | _=>False
 | .tup a,.tup b=>match op with
  | .Add=>a.length + b.length≤lim∧Q (.tup (a ++ b)) μ
  | _=>False
 | _,_=>False
noncomputable def thaw (μ:Mem):Nat→D→D
 | 0,d=>d
 | n + 1,d=>match d with
  | .tup ds=>.tup (ds.map (thaw μ n))
  | .lst ds=>.lst (ds.map (thaw μ n))
  | .loc k=>match μ[k]? with | some (.lst ds)=>.lst (ds.map (thaw μ n)) | _=>.loc k
  | d=>d
noncomputable def wEqT (neg:Bool) (x y:D) (μ:Mem) (Q:QD):Prop:=flat 60 (thaw μ 8 x)=true∧flat 60 (thaw μ 8 y)=true∧Q (.bl (neg != eqD (thaw μ 8 x) (thaw μ 8 y))) μ
noncomputable def isNon:D→Bool
 | .non=>true
 | _=>false
noncomputable def keyD:D→Option DKey
 | .int i=>some (.inl i)
 | .str x=>some (.inr x)
 | _=>none
noncomputable def Zad:List D→Option (List DKey)
 | []=>some []
 | d :: ds=>match keyD d with | some k=>(Zad ds).map (k :: ·) | none=>none
noncomputable def hasK {κ:Type} [DecidableEq κ] (ks:List κ) (k:κ):Bool:=decide (k∈ks)
theorem Vv {κ:Type} [DecidableEq κ] {ks:List κ} {k:κ}:hasK ks k=true↔k∈ks:=by unfold hasK; simp
noncomputable def wInD (neg:Bool) (x y:D) (μ:Mem) (Q:QD):Prop:=match y with
 | .loc n=>(match μ[n]? with
  | some (.dic ks _)=>(match keyD x with | some k=>Q (.bl (neg != hasK ks k)) μ | none=>False)
  | some (.dtc ks _)=>(match x with | .tup es=>(match Zad es with | some k=>Q (.bl (neg != hasK ks k)) μ | none=>False) | _=>False)
  | _=>False)
 | _=>False
noncomputable def wLenD (d:D) (μ:Mem) (Q:QD):Prop:=match d with
 | .loc n=>(match μ[n]? with | some (.dic ks _)=>Q (.int ks.length) μ | _=>False)
 | _=>False
noncomputable def wNeE (n:Nat) (y:D) (μ:Mem) (Q:QD):Prop:=match μ[n]? with
 | some (.lst ds)=>(match y with | .lst []=>Q (.bl (!ds.isEmpty)) μ | _=>False)
 | _=>False
noncomputable def wCmp (op:CmpOp) (x y:D) (μ:Mem) (Q:QD):Prop :=
 match op with
 | .Eq=>flat 60 x=true∧flat 60 y=true∧Q (.bl (eqD x y)) μ
 | .NotEq=>match x with
  | .loc n=>wNeE n y μ Q
  | x=>flat 60 x=true∧flat 60 y=true∧Q (.bl (!eqD x y)) μ
 | .Lt=>match ltD x y with | some b=>Q (.bl b) μ | none=>False
 | .LtE=>match x,y with
  | .int i,.int j=>Q (.bl (decide (i≤j))) μ
  | .str a,.str b=>Q (.bl (!ltCs b a)) μ
  | _,_=>False
 | .Gt=>match x,y with
  | .int i,.int j=>Q (.bl (decide (j < i))) μ
  | _,_=>False
 | .GtE=>match x,y with
  | .int i,.int j=>Q (.bl (decide (j≤i))) μ
  | _,_=>False
 | .Is=>match y with | .non=>Q (.bl (isNon x)) μ | .bl b=>(match x with | .bl a=>Q (.bl (a == b)) μ | _=>False) | _=>False
 | .IsNot=>match y with | .non=>Q (.bl (!isNon x)) μ | .bl b=>(match x with | .bl a=>Q (.bl (a != b)) μ | _=>False) | _=>False
 | .In=>match y with
  | .str t=>(match x with | .str a=>(match a with | [c]=>Q (.bl (t.contains c)) μ | _=>False) | _=>False)
  | y=>(match Yb μ y with | some ds=>flats 60 ds=true∧flat 60 x=true∧Q (.bl (ds.any fun d=>eqD d x)) μ | none=>wInD false x y μ Q)
 | .NotIn=>match y with
  | .str t=>(match x with | .str a=>(match a with | [c]=>Q (.bl (!t.contains c)) μ | _=>False) | _=>False)
  | y=>(match Yb μ y with | some ds=>flats 60 ds=true∧flat 60 x=true∧Q (.bl (!ds.any fun d=>eqD d x)) μ | none=>wInD true x y μ Q)
noncomputable def wNeX (x y:D) (μ:Mem) (Q:QD):Prop:=match x with
 | .loc n=>(match μ[n]? with
  | some (.dic _ _)=>(match y with | .loc m=>(match μ[m]? with | some (.lst _)=>Q (.bl true) μ | _=>False) | _=>False)
  | _=>wEqT true (.loc n) y μ Q)
 | x=>wEqT true x y μ Q
noncomputable def allB:List D→Option Bool
 | []=>some true
 | .bl b :: ds=>(allB ds).map (b && ·)
 | _ :: _=>none
noncomputable def Vt:List D→Option (List Int)
 | []=>some []
 | .int i :: ds=>(Vt ds).map (i :: ·)
 | _ :: _=>none
noncomputable def knownB:List String:=["len","all","sum","max","min","list","mlist","tuple","divmod","int","tsorted","mtsorted"]
noncomputable def wB3 (b:String) (d e f:D) (μ:Mem) (Q:QD):Prop:=match b with
 | "min3"=>(match d,e,f with | .int i,.int j,.int k=>Q (.int (min (min i j) k)) μ | _,_,_=>False)
 | _=>False
theorem wB3_no {b:String} {d e f:D} {μ:Mem} {Q:QD} (hb:b≠"min3"):¬ wB3 b d e f μ Q:=by
 unfold wB3
 split
 ·exact absurd rfl hb
 ·exact id
noncomputable def wKys (d:D) (μ:Mem) (Q:QD):Prop:=match d with
 | .loc n=>(match μ[n]? with | some (.dic ks _)=>∃ is:List Int,ks=is.map Sum.inl∧Q (.lst (is.map .int)) μ | _=>False)
 | _=>False
noncomputable def tI (l:List Int):D:=.tup (l.map .int)
noncomputable def ltI:List Int→List Int→Bool
 | _,[]=>false
 | [],_ :: _=>true
 | x :: xs,y :: ys=>if x=y then ltI xs ys else decide (x < y)
noncomputable abbrev UpI (r:List (List Int)):Prop:=r.Pairwise fun a b=>ltI b a=false
noncomputable def wTso (m:Bool) (d:D) (μ:Mem) (Q:QD):Prop:=∃ r:List (List Int),(Wm μ d=some (r.map tI)∨∃ n o ds,d = .loc n∧μ[n]? = some (.fdt o (r.map fun l=>l.map Sum.inl) ds))∧r.length < 64∧(∀ x∈r,x≠[]) ∧
 ∀ r':List (List Int),r'.Perm r→UpI r'→newL m (r'.map tI) μ Q
noncomputable def wBlt (b:String) (ds:List D) (μ:Mem) (Q:QD):Prop :=
 match ds with
 | [d]=>match b with
  | "len"=>match lenOf μ d with | some n=>Q (.int n) μ | none=>wLenD d μ Q
  | "all"=>match (Wm μ d).bind allB with | some r=>Q (.bl r) μ | none=>False
  | "sum"=>match (Yb μ d).bind Vt with | some r=>Q (.int r.sum) μ | none=>False
  | "max"=>match (Wm μ d).bind Vt with | some (i :: is)=>Q (.int (is.foldl max i)) μ | _=>False
  | "min"=>match (Wm μ d).bind Vt with | some (i :: is)=>Q (.int (is.foldl min i)) μ | _=>False
  | "list"=>match Yb μ d with | some es=>Q (.lst es) μ | none=>wKys d μ Q
  | "mlist"=>match Yb μ d with | some es=>newL true es μ Q | none=>False
  | "int"=>match d with | .int i=>Q (.int i) μ | .bl b=>Q (.int (if b then 1 else 0)) μ | .str x=>∃ n:Int,(x.length≤640∧intText? ⟨x.toArray⟩=some n)∧Q (.int n) μ | _=>False
  | "tuple"=>match Yb μ d with | some es=>Q (.tup es) μ | none=>False
  | "tsorted"=>wTso false d μ Q
  | "mtsorted"=>wTso true d μ Q
  | _=>False
 | [d,e]=>match b with
  | "divmod"=>match d,e with | .int i,.int j=>CDivD j∧Q (.tup [.int (i / j),.int (i % j)]) μ | _,_=>False
  | "max"=>match d,e with | .int i,.int j=>Q (.int (if j > i then j else i)) μ | _,_=>False
  | "min"=>match d,e with | .int i,.int j=>Q (.int (if j < i then j else i)) μ | _,_=>False
  | _=>False
 | [d,e,f]=>wB3 b d e f μ Q
 | _=>False
noncomputable def wBltM (d e:D) (μ:Mem) (Q:QD):Prop :=
 match (Wm μ d).bind Vt with
 | some []=>Q e μ
 | some (i :: is)=>Q (.int (is.foldl max i)) μ
 | _=>False
noncomputable def wDd1 (n:Nat) (d e:D) (μ:Mem) (Q:QD):Prop:=match keyD d with
 | some k=>μ[n]? = some (.dic [] [])∧Q (.loc n) (μ.set n (.dic [k] [e]))
 | none=>False
noncomputable def wDdT (n:Nat) (d e:D) (μ:Mem) (Q:QD):Prop:=match d with
 | .tup ds=>(match Zad ds with
  | some k=>μ[n]? = some (.dtc [] [])∧Q (.loc n) (μ.set n (.dtc [k] [e]))
  | none=>False)
 | _=>False
noncomputable def wBltD (b:String) (n:Nat) (d e:D) (μ:Mem) (Q:QD):Prop:=if b = "{}" then wDd1 n d e μ Q else if b = "{t}" then wDdT n d e μ Q else wBltM d e μ Q
noncomputable def Yn {κ:Type} [DecidableEq κ]:List κ→List D→κ→Option D
 | k' :: ks,d :: ds,k=>if k'=k then some d else Yn ks ds k
 | _,_,_=>none
noncomputable def Zn {κ:Type} [DecidableEq κ] (ks:List κ) (k:κ):List κ:=if k∈ks then ks else ks ++ [k]
noncomputable def Xr {κ:Type} [DecidableEq κ] (ks:List κ) (ds:List D) (k:κ) (d:D):List D:=if k∈ks then List.zipWith (fun k' d'=>if k'=k then d else d') ks ds else ds ++ [d]
noncomputable def wDput (x y v:D) (μ:Mem) (k:Mem→Prop):Prop:=match x with
 | .loc n=>match μ[n]? with
  | some (.dic ks ds)=>(match keyD y with | some q=>ks.length < lim∧k (μ.set n (.dic (Zn ks q) (Xr ks ds q v))) | none=>False)
  | some (.dtc ks ds)=>(match y with | .tup es=>(match Zad es with | some q=>ks.length < lim∧k (μ.set n (.dtc (Zn ks q) (Xr ks ds q v))) | none=>False) | _=>False)
  | _=>False
 | _=>False
noncomputable def wlOf (μ:Mem):D→Option (List D)
 | .lst ds=>some ds
 | .loc n=>match μ[n]? with | some (.lst ds)=>some ds | _=>none
 | _=>none
noncomputable def wCat (m:Bool) (x y:D) (μ:Mem) (Q:QD):Prop:=match wlOf μ x with
 | some as=>(match wlOf μ y with | some bs=>as.length + bs.length≤lim∧newL m (as ++ bs) μ Q | none=>False)
 | none=>False
noncomputable def Xar (op:Operator) (p q:D) (k:D→Prop):Prop:=match p,q with
 | .int i,.int j=>match op with | .Add=>k (.int (i + j)) | .Sub=>k (.int (i - j)) | _=>False
 | _,_=>False
noncomputable def wlT (μ:Mem):D→Option (List D)
 | .tup ds=>some ds
 | d=>wlOf μ d
noncomputable def isCell (μ:Mem):D→Bool
 | .loc n=>match μ[n]? with | some (.lst _)=>true | _=>false
 | _=>false
noncomputable def Yl (m:String) (n:Nat) (xs:List D) (ds:List D) (μ:Mem) (Q:QD):Prop :=
 match ds with
 | []=>match m with
  | _=>False
 | [d]=>match m with
  | "append"=>xs.length < lim∧Q .non (μ.set n (.lst (xs ++ [d])))
  | "extend"=>match wlT μ d with | some es=>xs.length + es.length≤lim∧Q .non (μ.set n (.lst (xs ++ es))) | none=>False
  | _=>False
 | [.int k,d]=>match m with
  | _=>False
 | _=>False
noncomputable def Zu (m:String) (o:D) (ds:List D) (μ:Mem) (Q:QD):Prop :=
 match o with
 | .loc n=>match μ[n]? with
  | some (.lst xs)=>Yl m n xs ds μ Q
  | _=>False
 | _=>False
noncomputable def wIdx (x y:D) (μ:Mem) (Q:QD):Prop :=
 match x,y with
 | .str z,.int i=>match (ixD z.length i).bind (z[·]?) with | some c=>Q (.str [c]) μ | none=>False
 | x,.int i=>match Yb μ x with
  | some ds=>match (ixD ds.length i).bind (ds[·]?) with | some d=>Q d μ | none=>False
  | none=>False
 | _,_=>False
noncomputable def wSlc (m:Bool) (x:D) (lo hi:Option Int) (μ:Mem) (Q:QD):Prop :=
 match x with
 | .lst ds=>newL m (cutD ds lo hi) μ Q
 | .str z=>((∀ i,lo=some i→0≤i)∧(∀ i,hi=some i→0≤i)∧sIxD z.length 0 lo≤sIxD z.length z.length hi)∧Q (.str (cutD z lo hi)) μ
 | .tup ds=>Q (.tup (cutD ds lo hi)) μ
 | .loc n=>match μ[n]? with | some (.lst ds)=>newL m (cutD ds lo hi) μ Q | _=>False
 | _=>False
noncomputable def wFrz (d:D) (μ:Mem) (Q:QD):Prop :=
 match d with
 | .loc n=>match μ[n]? with | some (.lst ds)=>Q (.lst ds) (μ.set n .gone) | some (.dic ks ds)=>Q (.fdc ks ds) (μ.set n .gone) | some (.dtc ks ds)=>∀ o,Q (.loc n) (μ.set n (.fdt o ks ds)) | some (.fdt _ _ _)=>Q (.loc n) μ | _=>False
 | d=>Q d μ
noncomputable def wTru (d:D) (μ:Mem) (Q:Bool→Mem→Prop):Prop:=match truth μ d with | some b=>Q b μ | none=>False
noncomputable def wBl (d:D) (μ:Mem) (Q:Bool→Mem→Prop):Prop:=match d with | .bl b=>Q b μ | _=>False
noncomputable def wInt (d:D) (μ:Mem) (Q:Int→Mem→Prop):Prop:=match d with | .int i=>Q i μ | _=>False
noncomputable abbrev QI:=List D→(Mem→Prop)→Mem→Prop
noncomputable def wSeq (d:D) (μ:Mem) (Q:QI):Prop :=
 match d with
 | .lst ds=>Q ds (fun _=>True) μ
 | .tup ds=>Q ds (fun _=>True) μ
 | .ro ds=>Q ds (fun _=>True) μ
 | .str x=>Q (chars x) (fun _=>True) μ
 | .fdc ks _=>∃ is:List Int,ks=is.map Sum.inl∧Q (is.map .int) (fun _=>True) μ
 | .loc n=>match μ[n]? with
  | some (.lst ds)=>Q ds (fun μ'=>μ'[n]? = some (.lst ds)) μ
  | some (.fdt o ks ds)=>∃ is:List (List Int),ks=is.map (fun l=>l.map Sum.inl)∧Q (is.map tI) (fun μ'=>μ'[n]? = some (.fdt o ks ds)) μ
  | _=>False
 | _=>False
noncomputable def wRng (n:Nat) (ds:List D) (μ:Mem) (Q:QI):Prop :=
 match n,ds with
 | 1,[.int j]=>j≤lim∧-(2 ^ 62)≤j∧Q (Zk 0 j.toNat) (fun _=>True) μ
 | 2,[.int i,.int j]=>(j - i≤lim∧-(2 ^ 62)≤i∧i < 2 ^ 62∧-(2 ^ 62)≤j∧j < 2 ^ 62)∧Q (Zk i (j - i).toNat) (fun _=>True) μ
 | _,_=>False
noncomputable def Yg (is:List Nat) (tt:Bool) (d:D) (ρ:Rho) (k:Rho→Prop):Prop :=
 match tt with
 | false=>match is with | [i]=>k (ρ.set i (some d)) | _=>False
 | true=>match d with | .tup ds=>ds.length=is.length∧k ((is.zip ds).foldl (fun r p=>r.set p.1 (some p.2)) ρ) | _=>False
noncomputable def bindC (n:Nat) (tt:Bool) (d:D) (r:Rho) (k:Rho→Prop):Prop :=
 match tt with
 | false=>k (some d :: r)
 | true=>match d with | .tup ds=>ds.length=n∧k (ds.map some ++ r) | _=>False
noncomputable def Vs (bnd:D→(Rho→Prop)→Prop) (cw:Rho→Mem→(Bool→Mem→Prop)→Prop) (ew:Rho→Mem→QD→Prop) (g:Mem→Prop):List D→List D→Mem→(List D→Mem→Prop)→Prop
 | [],acc,μ,Q=>g μ∧Q acc μ
 | d :: ds,acc,μ,Q=>g μ∧bnd d fun ρ=>cw ρ μ fun b μ1=>if b=true then ew ρ μ1 fun v μ2=>Vs bnd cw ew g ds (acc ++ [v]) μ2 Q else Vs bnd cw ew g ds acc μ1 Q
noncomputable def Wz:Es→Nat
 | .nil=>0
 | .cons _ es=>Wz es + 1
mutual
noncomputable def wE:E→Rho→Mem→QD→Prop
 | .var i,ρ,μ,Q=>match ρ[i]? with | some (some d)=>Q d μ | _=>False
 | .cst d,_,μ,Q=>Q d μ
 | .bin op a b,ρ,μ,Q=>wE a ρ μ fun x μ1=>wE b ρ μ1 fun y μ2=>wBin op x y μ2 Q
 | .neg a,ρ,μ,Q=>wE a ρ μ fun x μ1=>match x with | .int i=>Q (.int (-i)) μ1 | _=>False
 | .not a,ρ,μ,Q=>wE a ρ μ fun x μ1=>wBl x μ1 fun b μ2=>Q (.bl (!b)) μ2
 | .cmp op a b,ρ,μ,Q=>wE a ρ μ fun x μ1=>wE b ρ μ1 fun y μ2=>wCmp op x y μ2 Q
 | .cmpX a b n,ρ,μ,Q=>match n with
  | false=>False
  | true=>wE a ρ μ fun x μ1=>wE b ρ μ1 fun y μ2=>wNeX x y μ2 Q
 | .chain p q a b c,ρ,μ,Q=>wE a ρ μ fun x μ1=>wE b ρ μ1 fun y μ2=>wCmp p x y μ2 fun r μ3=>wBl r μ3 fun t μ3 =>
   if t=true then wE c ρ μ3 fun z μ4=>wCmp q y z μ4 Q else Q (.bl false) μ3
 | .and a b,ρ,μ,Q=>wE a ρ μ fun x μ1=>wBl x μ1 fun t μ2=>if t=true then wE b ρ μ2 Q else Q (.bl false) μ2
 | .or a b,ρ,μ,Q=>wE a ρ μ fun x μ1=>wBl x μ1 fun t μ2=>if t=true then Q (.bl true) μ2 else wE b ρ μ2 Q
 | .call _ sp as,ρ,μ,Q=>wEs as ρ μ fun ds μ1=>sp ds μ1 Q
 | .blt x as,ρ,μ,Q=>wEs as ρ μ fun ds μ1=>wBlt x ds μ1 Q
 | .bltD x a b,ρ,μ,Q=>wE a ρ (if x = "{}" then μ ++ [.dic [] []] else if x = "{t}" then μ ++ [.dtc [] []] else μ) fun d μ1=>wE b ρ μ1 fun e μ2=>wBltD x μ.length d e μ2 Q
 | .isin a t,ρ,μ,Q=>wE a ρ μ fun d μ1=>Wx t d μ1 Q
 | .meth m o as,ρ,μ,Q=>wE o ρ μ fun x μ1=>isCell μ1 x=true∧wEs as ρ μ1 fun ds μ2=>Zu m x ds μ2 Q
 | .idx a b,ρ,μ,Q=>wE a ρ μ fun x μ1=>wE b ρ μ1 fun y μ2=>wIdx x y μ2 Q
 | .slc m a lo hi,ρ,μ,Q=>wE a ρ μ fun x μ1=>wO lo ρ μ1 fun l μ2=>wO hi ρ μ2 fun h μ3=>wSlc m x l h μ3 Q
 | .tup as,ρ,μ,Q=>wEs as ρ μ fun ds μ1=>ds.length≤lim∧Q (.tup ds) μ1
 | .lst m as,ρ,μ,Q=>wEs as ρ μ fun ds μ1=>ds.length≤lim∧newL m ds μ1 Q
 | .dsp ks as,ρ,μ,Q=>wEs as ρ μ fun ds μ1=>ks.length=ds.length∧Q (.loc μ1.length) (μ1 ++ [.dic ks ds])
 | .comp m n tt cap elt it cond,ρ,μ,Q=>wI it ρ μ fun ds g μ1 =>
   Vs (fun d k=>bindC n tt d (cap.map fun i=>(ρ[i]?).join) k) (fun ρ' μ' Q'=>wTs cond ρ' μ' Q') (fun ρ' μ' Q'=>wE elt ρ' μ' Q') g ds [] μ1 fun vs μ2=>newL m vs μ2 Q
 | .frz a,ρ,μ,Q=>wE a ρ μ fun d μ1=>wFrz d μ1 Q
 | .dnew t,_,μ,Q=>Q (.loc μ.length) (μ ++ [if t=true then .dtc [] [] else .dic [] []])
 | .lrng m a r,ρ,μ,Q=>match r with
  | false=>False
  | true=>wE a ρ μ fun d μ1=>wRvl m d μ1 Q
 | .cat m a b,ρ,μ,Q=>wE a ρ μ fun x μ1=>wE b ρ μ1 fun y μ2=>wCat m x y μ2 Q
noncomputable def wEs:Es→Rho→Mem→(List D→Mem→Prop)→Prop
 | .nil,_,μ,Q=>Q [] μ
 | .cons e es,ρ,μ,Q=>wE e ρ μ fun d μ1=>wEs es ρ μ1 fun ds μ2=>Q (d :: ds) μ2
noncomputable def wO:Es→Rho→Mem→(Option Int→Mem→Prop)→Prop
 | .nil,_,μ,Q=>Q none μ
 | .cons e es,ρ,μ,Q=>wE e ρ μ fun d μ1=>match es with | .nil=>wInt d μ1 fun i μ2=>Q (some i) μ2 | _=>False
noncomputable def wT:E→Rho→Mem→(Bool→Mem→Prop)→Prop
 | .not a,ρ,μ,Q=>wT a ρ μ fun b μ1=>Q (!b) μ1
 | .and a b,ρ,μ,Q=>wT a ρ μ fun t μ1=>if t=true then wT b ρ μ1 Q else Q false μ1
 | .or a b,ρ,μ,Q=>wT a ρ μ fun t μ1=>if t=true then Q true μ1 else wT b ρ μ1 Q
 | .var i,ρ,μ,Q=>match ρ[i]? with | some (some d)=>wTru d μ Q | _=>False
 | .cst d,_,μ,Q=>wTru d μ Q
 | .cmp op a b,ρ,μ,Q=>wE a ρ μ fun x μ1=>wE b ρ μ1 fun y μ2=>wCmp op x y μ2 fun r μ3=>wBl r μ3 Q
 | .cmpX a b n,ρ,μ,Q=>match n with
  | false=>False
  | true=>wE a ρ μ fun x μ1=>wE b ρ μ1 fun y μ2=>wNeX x y μ2 fun r μ3=>wBl r μ3 Q
 | .chain p q a b c,ρ,μ,Q=>wE a ρ μ fun x μ1=>wE b ρ μ1 fun y μ2=>wCmp p x y μ2 fun r μ3=>wBl r μ3 fun t μ3 =>
   if t=true then wE c ρ μ3 fun z μ4=>wCmp q y z μ4 fun r μ5=>wBl r μ5 Q else Q false μ3
 | .call _ sp as,ρ,μ,Q=>wEs as ρ μ fun ds μ1=>sp ds μ1 fun d μ2=>wTru d μ2 Q
 | .idx a b,ρ,μ,Q=>wE a ρ μ fun x μ1=>wE b ρ μ1 fun y μ2=>wIdx x y μ2 fun d μ3=>wTru d μ3 Q
 | .blt x as,ρ,μ,Q=>wEs as ρ μ fun ds μ1=>wBlt x ds μ1 fun d μ2=>wTru d μ2 Q
 | .isin a t,ρ,μ,Q=>wE a ρ μ fun d μ1=>Wx t d μ1 fun r μ2=>wBl r μ2 Q
 | _,_,_,_=>False
noncomputable def wTs:Es→Rho→Mem→(Bool→Mem→Prop)→Prop
 | .nil,_,μ,Q=>Q true μ
 | .cons e es,ρ,μ,Q=>wT e ρ μ fun b μ1=>match es with | .nil=>Q b μ1 | _=>False
noncomputable def wI:It→Rho→Mem→QI→Prop
 | .seq e,ρ,μ,Q=>wE e ρ μ fun d μ1=>wSeq d μ1 Q
 | .rng as,ρ,μ,Q=>wEs as ρ μ fun ds μ1=>wRng (Wz as) ds μ1 Q
end
structure DEnds where
 nx:Rho→Mem→Prop
 rt:QD
 bk:Rho→Mem→Prop:=fun _ _=>False
 ct:Rho→Mem→Prop:=fun _ _=>False
 xc:Rho→QX:=fun _ _ _ _ _=>False
noncomputable def Yar (bnd:D→Rho→(Rho→Prop)→Prop) (bw:DEnds→Rho→Mem→Prop) (g:Mem→Prop) (Z:DEnds):List D→Rho→Mem→Prop
 | [],ρ,μ=>g μ∧Z.nx ρ μ
 | d :: ds,ρ,μ=>g μ∧bnd d ρ fun ρ'=>bw { Z with nx:=Yar bnd bw g Z ds,ct:=Yar bnd bw g Z ds,bk:=Z.nx } ρ' μ
noncomputable def Wo (o i v:D) (μ:Mem) (k:Mem→Prop):Prop :=
 match o,i with
 | .loc n,.int j=>match μ[n]? with
  | some (.lst xs)=>match ixD xs.length j with | some p=>k (μ.set n (.lst (xs.set p v))) | none=>False
  | _=>False
 | _,_=>False
noncomputable def wGetI (x y:D) (μ:Mem) (Q:QD):Prop:=match x,y with
 | .loc n,.int j=>(match μ[n]? with
  | some (.lst xs)=>0≤j∧(match xs[j.toNat]? with | some d=>Q d μ | none=>False)
  | _=>False)
 | _,_=>False
mutual
noncomputable def wS:S→DEnds→Rho→Mem→Prop
 | .set i e,Z,ρ,μ=>wE e ρ μ fun d μ1=>Z.nx (ρ.set i (some d)) μ1
 | .setT is e,Z,ρ,μ=>wE e ρ μ fun d μ1=>Yg is true d ρ fun ρ'=>Z.nx ρ' μ1
 | .dput o i e,Z,ρ,μ=>wE e ρ μ fun v μ1=>wE o ρ μ1 fun x μ2=>wE i ρ μ2 fun y μ3=>wDput x y v μ3 fun μ4=>Z.nx ρ μ4
 | .augIx op o i e,Z,ρ,μ=>wE o ρ μ fun x μ1=>wE i ρ μ1 fun y μ2=>wGetI x y μ2 fun p μ3=>wE e ρ μ3 fun q μ4=>Xar op p q fun v=>Wo x y v μ4 fun μ5=>Z.nx ρ μ5
 | .setIx o i e,Z,ρ,μ=>wE e ρ μ fun v μ1=>wE o ρ μ1 fun x μ2=>wE i ρ μ2 fun y μ3=>Wo x y v μ3 fun μ4=>Z.nx ρ μ4
 | .exp e,Z,ρ,μ=>wE e ρ μ fun _ μ1=>Z.nx ρ μ1
 | .ret e,Z,ρ,μ=>wE e ρ μ Z.rt
 | .ite c a b,Z,ρ,μ=>wT c ρ μ fun t μ1=>if t=true then wSs a Z ρ μ1 else wSs b Z ρ μ1
 | .for_ tg tt it b,Z,ρ,μ=>wI it ρ μ fun ds g μ1=>Yar (fun d r k=>Yg tg tt d r k) (fun Z' r m=>wSs b Z' r m) g Z ds ρ μ1
 | .whl c b,Z,ρ,μ=>∃ W:Nat→Rho→Mem→Prop,(∃ m,W m ρ μ)∧∀ m ρ μ,W m ρ μ→wT c ρ μ fun t μ1 =>
   if t=true then wSs b { Z with nx:=fun ρ' μ'=>∃ m',m' < m∧W m' ρ' μ',ct:=fun ρ' μ'=>∃ m',m' < m∧W m' ρ' μ',bk:=Z.nx } ρ μ1 else Z.nx ρ μ1
 | .brk,Z,ρ,μ=>Z.bk ρ μ
 | .nev,_,_,_=>False
noncomputable def wSs:Ss→DEnds→Rho→Mem→Prop
 | .nil,Z,ρ,μ=>Z.nx ρ μ
 | .cons s r,Z,ρ,μ=>wS s { Z with nx:=fun ρ' μ'=>wSs r Z ρ' μ' } ρ μ
end
end DW
end
section
set_option autoImplicit false
namespace DW
open PySem
noncomputable def Yd (N:List Str) (ds:List D):Rho:=ds.map some ++ List.replicate (N.length - ds.length) none
noncomputable def topZ (Q:QD):DEnds:=⟨fun _ μ=>Q .non μ,Q,fun _ _=>False,fun _ _=>False,fun _ _ _ _ _=>False⟩
noncomputable def Keeps (N:List Str) (i:Ss) (sp:DSp):Prop:=∀ ds μ Q,sp ds μ Q→wSs i (topZ Q) (Yd N ds) μ
noncomputable def calmSp (sp:DSpX):DSp:=fun ds μ Q=>sp ds μ Q fun _ _ _ _=>False
def spLaw:DSp:=fun ds μ Q=>∃ ns:List Int,ds=[.ro (ns.map D.int)]∧ns.length≤63∧∀ μ',Q (.bl true) μ'
theorem Ye {bnd:D→Rho→(Rho→Prop)→Prop} {bw:DEnds→Rho→Mem→Prop} {g:Mem→Prop} {Z:DEnds} (Inv:List D→Rho→Mem→Prop)
  (hs:∀ d ds ρ μ N,(∀ ρ μ,Inv ds ρ μ→N ρ μ)→Inv (d :: ds) ρ μ→g μ∧bnd d ρ fun ρ'=>bw { Z with nx:=N,ct:=N,bk:=Z.nx } ρ' μ)
  (he:∀ ρ μ,Inv [] ρ μ→g μ∧Z.nx ρ μ):∀ (ds:List D) (ρ:Rho) (μ:Mem),Inv ds ρ μ→Yar bnd bw g Z ds ρ μ
 | [],ρ,μ,h=>he ρ μ h
 | d :: ds,ρ,μ,h=>hs d ds ρ μ _ (fun ρ μ q=>Ye Inv hs he ds ρ μ q) h
theorem Y7 {bnd:D→(Rho→Prop)→Prop} {cw:Rho→Mem→(Bool→Mem→Prop)→Prop} {ew:Rho→Mem→QD→Prop} {g:Mem→Prop} {Q:List D→Mem→Prop} {μ:Mem} (p:D→Bool) (f:D→D) (hg:g μ) :
  ∀ (ds acc:List D),(∀ d∈ds,∀ (Y:D→Mem→Prop) (N:Mem→Prop),(if p d=true then Y (f d) μ else N μ)→bnd d fun ρ=>cw ρ μ fun b μ1=>if b=true then ew ρ μ1 (fun v μ2=>Y v μ2) else N μ1) →
   Q (acc ++ (ds.filter p).map f) μ→Vs bnd cw ew g ds acc μ Q
 | [],acc,_,h=>⟨hg,by simpa using h⟩
 | d :: ds,acc,hs,h=>by
  refine ⟨hg,hs d (by simp) (fun v μ2=>Vs bnd cw ew g ds (acc ++ [v]) μ2 Q) (fun μ1=>Vs bnd cw ew g ds acc μ1 Q) ?_⟩
  by_cases q:p d=true
  ·rw [if_pos q]
   refine Y7 p f hg ds _ (fun e he=>hs e (by simp [he])) ?_
   rw [List.filter_cons_of_pos q] at h
   simpa using h
  ·rw [if_neg q]
   refine Y7 p f hg ds _ (fun e he=>hs e (by simp [he])) ?_
   rw [List.filter_cons_of_neg q] at h
   exact h
theorem Vf {α:Type} {bnd:D→(Rho→Prop)→Prop} {cw:Rho→Mem→(Bool→Mem→Prop)→Prop} {ew:Rho→Mem→QD→Prop} {g:Mem→Prop} {Q:List D→Mem→Prop} {μ:Mem} (c:α→D) (p:α→Bool) (f:α→D) (hg:g μ) :
  ∀ (l:List α) (acc:List D),(∀ x∈l,∀ (Y:D→Mem→Prop) (N:Mem→Prop),(if p x=true then Y (f x) μ else N μ)→bnd (c x) fun ρ=>cw ρ μ fun b μ1=>if b=true then ew ρ μ1 (fun v μ2=>Y v μ2) else N μ1) →
   Q (acc ++ (l.filter p).map f) μ→Vs bnd cw ew g (l.map c) acc μ Q
 | [],acc,_,h=>⟨hg,by simpa using h⟩
 | d :: ds,acc,hs,h=>by
  refine ⟨hg,hs d (by simp) (fun v μ2=>Vs bnd cw ew g (ds.map c) (acc ++ [v]) μ2 Q) (fun μ1=>Vs bnd cw ew g (ds.map c) acc μ1 Q) ?_⟩
  by_cases q:p d=true
  ·rw [if_pos q]
   refine Vf c p f hg ds _ (fun e he=>hs e (by simp [he])) ?_
   rw [List.filter_cons_of_pos q] at h
   simpa using h
  ·rw [if_neg q]
   refine Vf c p f hg ds _ (fun e he=>hs e (by simp [he])) ?_
   rw [List.filter_cons_of_neg q] at h
   exact h
theorem Zq {α:Type} {bnd:D→(Rho→Prop)→Prop} {cw:Rho→Mem→(Bool→Mem→Prop)→Prop} {ew:Rho→Mem→QD→Prop} {g:Mem→Prop} {Q:List D→Mem→Prop} {μ:Mem} (c:α→D) (f:α→D) (hg:g μ)
  (l:List α) (acc:List D) (hs:∀ x∈l,∀ (Y:D→Mem→Prop) (N:Mem→Prop),Y (f x) μ→bnd (c x) fun ρ=>cw ρ μ fun b μ1=>if b=true then ew ρ μ1 (fun v μ2=>Y v μ2) else N μ1)
  (h:Q (acc ++ l.map f) μ):Vs bnd cw ew g (l.map c) acc μ Q :=
 Vf c (fun _=>true) f hg l acc (fun x hx Y N q=>hs x hx Y N (by simpa using q)) (by rw [List.filter_eq_self.mpr (by simp)]; exact h)
theorem Yab {α:Type} (g:α→Int):∀ l:List α,Vt (l.map fun x=>D.int (g x))=some (l.map g)
 | []=>rfl
 | x :: l=>by simp [Vt,Yab g l]
theorem intsD_int (l:List Int):Vt (l.map D.int)=some l:=by
 have:=Yab (fun i:Int=>i) l
 simpa using this
theorem ixD_nat {n k:Nat} (h:k < n):ixD n (k:Int)=some k:=by
 have:(k:Int) < n:=by omega
 simp [ixD,this]
theorem ixD_lt {n:Nat} {i:Int} (h0:0≤i) (h:i < n):ixD n i=some i.toNat:=by simp [ixD,h0,h]
theorem cutD_from {α:Type} (xs:List α) {i:Int} (h:0≤i):cutD xs (some i) none=xs.drop i.toNat:=by
 have h2:¬ i < 0:=by omega
 simp only [cutD,sIxD,h2,if_false]
 by_cases q:i.toNat≤xs.length
 ·rw [Nat.min_eq_left q]; exact List.take_of_length_le (by simp)
 ·rw [List.drop_eq_nil_of_le (by omega),List.drop_eq_nil_of_le (by omega)]; simp
theorem cutD_to {α:Type} (xs:List α) {i:Int} (h:0≤i):cutD xs none (some i)=xs.take i.toNat:=by
 have h2:¬ i < 0:=by omega
 simp only [cutD,sIxD,h2,if_false,List.drop_zero,Nat.sub_zero]
 by_cases q:i.toNat≤xs.length
 ·rw [Nat.min_eq_left q]
 ·rw [List.take_of_length_le (by omega),List.take_of_length_le (by omega)]
theorem Yav (n:Nat):Zk 0 n=(List.range n).map fun (k:Nat)=>D.int (k:Int):=by simp [Zk]
theorem rangeL_mem {lo:Int} {n:Nat} {d:D} (h:d∈Zk lo n):∃ i:Int,d = .int i∧lo≤i∧i < lo + n:=by
 simp only [Zk,List.mem_map,List.mem_range] at h
 obtain ⟨j,hj,rfl⟩:=h
 exact ⟨_,rfl,by omega,by omega⟩
end DW
end
section
set_option autoImplicit false
namespace DW
open PySem PySem.Spec PyProof.Rows L2
noncomputable def keyOf:DKey→Key
 | .inl i=>.inl i
 | .inr x=>.inr ⟨x.toArray⟩
noncomputable def KL (K:PySem.W.Frag) (a:Addr) (xs:List V):Prop :=
 ∃ (o:Obj) (its:Array Value) (n:Nat),K.lookup a=some o∧o.cls = .type "list"∧o.dict=none∧o.data = .seq its n∧its.size≤sizeLine∧Vals xs its.toList
section
variable (K:PySem.W.Frag) (H:Hp) (θ:List Addr) (L:Addr→Prop)
mutual
noncomputable def Rep:D→V→Prop
 | .non,v=>v = .non
 | .bl b,v=>v = .bl b
 | .int i,v=>v = .int i
 | .str x,v=>v = .str ⟨x.toArray⟩∧x.length≤sizeLine
 | .tup ds,v=>∃ a xs,v = .ref a∧H a=some (.tup xs)∧¬ L a∧Reps ds xs
 | .lst ds,v=>∃ a xs,v = .ref a∧H a=some (.lst xs)∧¬ L a∧Reps ds xs
 | .ro ds,v=>∃ a xs,v = .ref a∧((∃ o,H a=some (.frz o (.lst xs))∧¬ L a)∨KL K a xs)∧Reps ds xs
 | .loc n,v=>∃ a,v = .ref a∧θ[n]? = some a
 | .dic ks ds,v=>∃ a kvs,v = .ref a∧H a=some (.dK kvs)∧¬ L a∧kvs.map (·.1)=ks.map keyOf∧Reps ds (kvs.map (·.2))
 | .fdc ks ds,v=>∃ a o kvs,v = .ref a∧H a=some (.frz o (.dK kvs))∧¬ L a∧kvs.map (·.1)=ks.map keyOf∧Reps ds (kvs.map (·.2))
noncomputable def Reps:List D→List V→Prop
 | [],vs=>vs=[]
 | d :: ds,vs=>∃ v r,vs=v :: r∧Rep d v∧Reps ds r
end
end
section
variable {K:PySem.W.Frag} {H H':Hp} {θ θ':List Addr} {L L':Addr→Prop}
mutual
theorem Rep.mono (hp:∀ (n:Nat) (a:Addr),θ[n]? = some a→θ'[n]? = some a) (hk:∀ a o,H a=some o→¬ L a→H' a=some o∧¬ L' a) :
  ∀ (d:D) (v:V),Rep K H θ L d v→Rep K H' θ' L' d v
 | .non,v,h=>by unfold Rep at *; exact h
 | .bl b,v,h=>by unfold Rep at *; exact h
 | .int i,v,h=>by unfold Rep at *; exact h
 | .str x,v,h=>by unfold Rep at *; exact h
 | .tup ds,v,h=>by
  unfold Rep at *
  obtain ⟨a,xs,e,h1,h2,h3⟩:=h
  exact ⟨a,xs,e,(hk a _ h1 h2).1,(hk a _ h1 h2).2,Reps.mono hp hk ds xs h3⟩
 | .lst ds,v,h=>by
  unfold Rep at *
  obtain ⟨a,xs,e,h1,h2,h3⟩:=h
  exact ⟨a,xs,e,(hk a _ h1 h2).1,(hk a _ h1 h2).2,Reps.mono hp hk ds xs h3⟩
 | .ro ds,v,h=>by
  unfold Rep at *
  obtain ⟨a,xs,e,h1,h3⟩:=h
  refine ⟨a,xs,e,?_,Reps.mono hp hk ds xs h3⟩
  rcases h1 with ⟨o,h1,h2⟩ | h1
  ·exact .inl ⟨o,(hk a _ h1 h2).1,(hk a _ h1 h2).2⟩
  ·exact .inr h1
 | .loc n,v,h=>by
  unfold Rep at *
  obtain ⟨a,e,h1⟩:=h
  exact ⟨a,e,hp n a h1⟩
 | .dic ks ds,v,h=>by
  unfold Rep at *
  obtain ⟨a,kvs,e,h1,h2,h3,h4⟩:=h
  exact ⟨a,kvs,e,(hk a _ h1 h2).1,(hk a _ h1 h2).2,h3,Reps.mono hp hk ds _ h4⟩
 | .fdc ks ds,v,h=>by
  unfold Rep at *
  obtain ⟨a,o,kvs,e,h1,h2,h3,h4⟩:=h
  exact ⟨a,o,kvs,e,(hk a _ h1 h2).1,(hk a _ h1 h2).2,h3,Reps.mono hp hk ds _ h4⟩
theorem Reps.mono (hp:∀ (n:Nat) (a:Addr),θ[n]? = some a→θ'[n]? = some a) (hk:∀ a o,H a=some o→¬ L a→H' a=some o∧¬ L' a) :
  ∀ (ds:List D) (vs:List V),Reps K H θ L ds vs→Reps K H' θ' L' ds vs
 | [],vs,h=>by unfold Reps at *; exact h
 | d :: ds,vs,h=>by
  unfold Reps at *
  obtain ⟨v,r,e,h1,h2⟩:=h
  exact ⟨v,r,e,Rep.mono hp hk d v h1,Reps.mono hp hk ds r h2⟩
end
theorem Reps.nil:Reps K H θ L [] []:=by unfold Reps; rfl
theorem Reps.cons {d:D} {ds:List D} {v:V} {vs:List V} (h:Rep K H θ L d v) (r:Reps K H θ L ds vs):Reps K H θ L (d :: ds) (v :: vs):=by
 unfold Reps; exact ⟨v,vs,rfl,h,r⟩
theorem Reps.nil_inv {vs:List V} (h:Reps K H θ L [] vs):vs=[]:=by unfold Reps at h; exact h
theorem Reps.cons_inv {d:D} {ds:List D} {vs:List V} (h:Reps K H θ L (d :: ds) vs):∃ v r,vs=v :: r∧Rep K H θ L d v∧Reps K H θ L ds r:=by
 unfold Reps at h; exact h
theorem Reps.length:∀ {ds:List D} {vs:List V},Reps K H θ L ds vs→ds.length=vs.length
 | [],vs,h=>by rw [h.nil_inv]; rfl
 | d :: ds,vs,h=>by
  obtain ⟨v,r,rfl,_,h2⟩:=h.cons_inv
  simp [h2.length]
theorem Reps.get:∀ {ds:List D} {vs:List V} {i:Nat} {d:D},Reps K H θ L ds vs→ds[i]? = some d→∃ v,vs[i]? = some v∧Rep K H θ L d v
 | [],_,_,_,_,e=>by simp at e
 | d :: ds,vs,i,d',h,e=>by
  obtain ⟨v,r,rfl,h1,h2⟩:=h.cons_inv
  cases i with
  | zero=>simp at e; subst e; exact ⟨v,rfl,h1⟩
  | succ i =>
   obtain ⟨w,e1,e2⟩:=Reps.get (i:=i) h2 (by simpa using e)
   exact ⟨w,by simpa using e1,e2⟩
theorem Reps.append:∀ {ds es:List D} {vs ws:List V},Reps K H θ L ds vs→Reps K H θ L es ws→Reps K H θ L (ds ++ es) (vs ++ ws)
 | [],_,_,_,h,k=>by rw [h.nil_inv]; exact k
 | d :: ds,_,_,_,h,k=>by
  obtain ⟨v,r,rfl,h1,h2⟩:=h.cons_inv
  exact Reps.cons h1 (h2.append k)
theorem Reps.take:∀ {ds:List D} {vs:List V} (n:Nat),Reps K H θ L ds vs→Reps K H θ L (ds.take n) (vs.take n)
 | _,_,0,_=>by simpa using Reps.nil
 | [],_,n + 1,h=>by rw [h.nil_inv]; simpa using Reps.nil
 | d :: ds,_,n + 1,h=>by
  obtain ⟨v,r,rfl,h1,h2⟩:=h.cons_inv
  exact Reps.cons h1 (h2.take n)
theorem Reps.drop:∀ {ds:List D} {vs:List V} (n:Nat),Reps K H θ L ds vs→Reps K H θ L (ds.drop n) (vs.drop n)
 | _,_,0,h=>h
 | [],_,n + 1,h=>by rw [h.nil_inv]; simpa using Reps.nil
 | d :: ds,_,n + 1,h=>by
  obtain ⟨v,r,rfl,h1,h2⟩:=h.cons_inv
  exact h2.drop n
theorem Reps.set {d':D} {v':V} (hd:Rep K H θ L d' v'):∀ {ds:List D} {vs:List V} (n:Nat),Reps K H θ L ds vs→Reps K H θ L (ds.set n d') (vs.set n v')
 | [],_,n,h=>by rw [h.nil_inv]; simpa using Reps.nil
 | d :: ds,_,0,h=>by
  obtain ⟨v,r,rfl,h1,h2⟩:=h.cons_inv
  exact Reps.cons hd h2
 | d :: ds,_,n + 1,h=>by
  obtain ⟨v,r,rfl,h1,h2⟩:=h.cons_inv
  exact Reps.cons h1 (h2.set hd n)
theorem Reps.one {d:D} {v:V} (h:Rep K H θ L d v):Reps K H θ L [d] [v]:=Reps.cons h Reps.nil
theorem Reps.reverse:∀ {ds:List D} {vs:List V},Reps K H θ L ds vs→Reps K H θ L ds.reverse vs.reverse
 | [],_,h=>by rw [h.nil_inv]; simpa using Reps.nil
 | d :: ds,_,h=>by
  obtain ⟨v,r,rfl,h1,h2⟩:=h.cons_inv
  rw [List.reverse_cons,List.reverse_cons]
  exact h2.reverse.append (Reps.one h1)
end
noncomputable def Live (θ:List Addr) (μ:Mem) (a:Addr):Prop:=∃ (n:Nat) (c:Cell),θ[n]? = some a∧μ[n]? = some c∧c≠.gone
noncomputable abbrev Rp (K:PySem.W.Frag) (H:Hp) (θ:List Addr) (μ:Mem):D→V→Prop:=Rep K H θ (Live θ μ)
noncomputable abbrev Rps (K:PySem.W.Frag) (H:Hp) (θ:List Addr) (μ:Mem):List D→List V→Prop:=Reps K H θ (Live θ μ)
noncomputable def ExcAt (x C:Addr) (h:Heap):Prop:=∃ o,h.get? x=some o∧o.cls = .ref C
noncomputable def DcO (a:Addr) (fs:List (Str×V)):HO:=.ext fun h=>∃ mA,h.Ns1 a mA∧(∀ f,RelO (fs.lookup f) (mA f))∧PySem.Within mA (fs.map (·.1))
noncomputable def ErrD (K:PySem.W.Frag) (H:Hp) (θ:List Addr) (μ:Mem) (ks:List String) (ds:List D) (dx:Option Addr):Prop :=
 (ks=[]∧dx=none)∨(ks≠[]∧∃ x fs,dx=some x∧H x=some (DcO x fs)∧¬ Live θ μ x∧fs.map (·.1)=ks.map (fun k=>Str.ofString k)∧Rps K H θ μ ds (fs.map (·.2)))
noncomputable def CellOk (K:PySem.W.Frag) (H:Hp) (θ:List Addr) (μ:Mem) (a:Addr):Cell→Prop
 | .lst ds=>∃ xs,H a=some (.lst xs)∧Rps K H θ μ ds xs
 | .ins c fs=>∃ C dx fs',PySem.W.nsIn K mainGlobals (Str.ofString c)=some (some (.ref C))∧H a=some (.ins C dx fs')∧fs'.map (·.1)=fs.map (fun p=>Str.ofString p.1)∧Rps K H θ μ (fs.map (·.2)) (fs'.map (·.2))
 | .dic ks ds=>∃ kvs,H a=some (.dK kvs)∧kvs.map (·.1)=ks.map keyOf∧Rps K H θ μ ds (kvs.map (·.2))
 | .dtc ks ds=>∃ kvs,H a=some (.dT kvs)∧kvs.map (·.1)=ks.map (·.map keyOf)∧Rps K H θ μ ds (kvs.map (·.2))
 | .fdt o ks ds=>∃ kvs,H a=some (.frz o (.dT kvs))∧kvs.map (·.1)=ks.map (·.map keyOf)∧Rps K H θ μ ds (kvs.map (·.2))
 | .exc c ks ds=>∃ C o u,PySem.W.nsIn K mainGlobals (Str.ofString c)=some (some (.ref C))∧H a=some (.frz o u)∧o.cls = .ref C∧PySem.W.notCls o=true∧ErrD K H θ μ ks ds o.dict
 | .gone=>True
structure WOk (K:PySem.W.Frag) (H:Hp) (θ:List Addr) (μ:Mem):Prop where
 len:θ.length=μ.length
 inj:∀ (m n:Nat) (a:Addr),θ[m]? = some a→θ[n]? = some a→m=n
 bnd:∀ (n:Nat) (a:Addr),θ[n]? = some a→H a≠none
 cell:∀ (n:Nat) (c:Cell) (a:Addr),μ[n]? = some c→θ[n]? = some a→CellOk K H θ μ a c
structure Grow (H:Hp) (θ:List Addr) (μ:Mem) (H':Hp) (θ':List Addr) (μ':Mem):Prop where
 pre:∀ (n:Nat) (a:Addr),θ[n]? = some a→θ'[n]? = some a
 keep:∀ a o,H a=some o→¬ Live θ μ a→H' a=some o∧¬ Live θ' μ' a
section
variable {K:PySem.W.Frag} {H H' H'':Hp} {θ θ' θ'':List Addr} {μ μ' μ'':Mem} {p a:Addr} {n:Nat} {ds:List D} {xs:List V} {d:D} {v:V}
theorem Grow.refl:Grow H θ μ H θ μ:=⟨fun _ _ h=>h,fun _ _ h k=>⟨h,k⟩⟩
theorem Grow.trans (g:Grow H θ μ H' θ' μ') (g':Grow H' θ' μ' H'' θ'' μ''):Grow H θ μ H'' θ'' μ'' :=
 ⟨fun n a h=>g'.pre n a (g.pre n a h),fun a o h k=>let ⟨x,y⟩:=g.keep a o h k; g'.keep a o x y⟩
theorem Grow.rep (g:Grow H θ μ H' θ' μ') (h:Rp K H θ μ d v):Rp K H' θ' μ' d v:=Rep.mono g.pre g.keep d v h
theorem Grow.reps (g:Grow H θ μ H' θ' μ') (h:Rps K H θ μ ds xs):Rps K H' θ' μ' ds xs:=Reps.mono g.pre g.keep ds xs h
theorem WOk.notIn (w:WOk K H θ μ) (hp:H p=none) (n:Nat):θ[n]?≠some p:=fun e=>w.bnd n p e hp
theorem WOk.notLive (w:WOk K H θ μ) (hp:H p=none):¬ Live θ μ p:=fun ⟨n,_,e,_⟩=>w.notIn hp n e
theorem Grow.ext (e:∀ a o,H a=some o→H' a=some o):Grow H θ μ H' θ μ:=⟨fun _ _ h=>h,fun a o h k=>⟨e a o h,k⟩⟩
theorem ErrD.mono {ks:List String} {dx:Option Addr} (kp:Grow H θ μ H' θ' μ') (h:ErrD K H θ μ ks ds dx):ErrD K H' θ' μ' ks ds dx:=by
 rcases h with h | ⟨h0,x,fs,h1,h2,h3,h4,h5⟩
 ·exact .inl h
 ·exact .inr ⟨h0,x,fs,h1,(kp.keep x _ h2 h3).1,(kp.keep x _ h2 h3).2,h4,kp.reps h5⟩
theorem CellOk.mono {c:Cell} (kp:Grow H θ μ H' θ' μ') (e:∀ o,H a=some o→H' a=some o) (h:CellOk K H θ μ a c):CellOk K H' θ' μ' a c:=by
 cases c with
 | lst ds=>obtain ⟨xs,h1,h2⟩:=h; exact ⟨xs,e _ h1,kp.reps h2⟩
 | ins c fs=>obtain ⟨C,dx,fs',h0,h1,h2,h3⟩:=h; exact ⟨C,dx,fs',h0,e _ h1,h2,kp.reps h3⟩
 | dic ks ds=>obtain ⟨kvs,h1,h2,h3⟩:=h; exact ⟨kvs,e _ h1,h2,kp.reps h3⟩
 | dtc ks ds=>obtain ⟨kvs,h1,h2,h3⟩:=h; exact ⟨kvs,e _ h1,h2,kp.reps h3⟩
 | fdt o ks ds=>obtain ⟨kvs,h1,h2,h3⟩:=h; exact ⟨kvs,e _ h1,h2,kp.reps h3⟩
 | exc c ks ds=>obtain ⟨C,o,u,h1,h2,h3,h5,h4⟩:=h; exact ⟨C,o,u,h1,e _ h2,h3,h5,h4.mono kp⟩
 | gone=>trivial
theorem WOk.ext (w:WOk K H θ μ) (e:∀ a o,H a=some o→H' a=some o):WOk K H' θ μ where
 len:=w.len
 inj:=w.inj
 bnd:=fun n a h k=>by
  cases q:H a with
  | none=>exact w.bnd n a h q
  | some o=>rw [e a o q] at k; cases k
 cell:=fun n c a h k=>(w.cell n c a h k).mono (Grow.ext e) (e a)
theorem Vn {o:HO} (hp:H p=none):∀ a u,H a=some u→(upd H p o) a=some u:=fun a u h=>by
 rw [Va (Xe h hp)]; exact h
theorem Xa7 {α:Type} {l:List α} {x y:α} {n:Nat} (h:l[n]? = some y):(l ++ [x])[n]? = some y:=by
 have hl:n < l.length:=(List.getElem?_eq_some_iff.mp h).1
 rw [List.getElem?_append_left hl]; exact h
theorem Wj {α:Type} {l:List α} {x y:α} {n:Nat} (h:(l ++ [x])[n]? = some y):l[n]? = some y∨(n=l.length∧x=y):=by
 by_cases hn:n < l.length
 ·rw [List.getElem?_append_left hn] at h; exact .inl h
 ·rw [List.getElem?_append_right (by omega)] at h
  have:n - l.length=0:=by
   cases e:n - l.length with
   | zero=>rfl
   | succ k=>rw [e] at h; simp at h
  rw [this] at h
  simp at h
  exact .inr ⟨by omega,h⟩
theorem Grow.new {c:Cell} {o:HO} (w:WOk K H θ μ) (hp:H p=none):Grow H θ μ (upd H p o) (θ ++ [p]) (μ ++ [c]) where
 pre:=fun n a h=>Xa7 h
 keep:=fun a u h k=>by
  refine ⟨Vn hp a u h,?_⟩
  rintro ⟨n,c',e1,e2,e3⟩
  rcases Wj e1 with e1 | ⟨e1,rfl⟩
  ·rcases Wj e2 with e2 | ⟨e2,_⟩
   ·exact k ⟨n,c',e1,e2,e3⟩
   ·have:=(List.getElem?_eq_some_iff.mp e1).1
    have:=w.len
    omega
  ·rw [hp] at h; cases h
theorem WOk.new {c:Cell} {o:HO} (w:WOk K H θ μ) (hp:H p=none) (hc:CellOk K (upd H p o) (θ ++ [p]) (μ ++ [c]) p c):WOk K (upd H p o) (θ ++ [p]) (μ ++ [c]) where
 len:=by simp [w.len]
 inj:=fun m n a h k=>by
  rcases Wj h with h1 | ⟨h1,rfl⟩
  ·rcases Wj k with k1 | ⟨k1,rfl⟩
   ·exact w.inj m n a h1 k1
   ·exact absurd h1 (w.notIn hp m)
  ·rcases Wj k with k1 | ⟨k1,_⟩
   ·exact absurd k1 (w.notIn hp n)
   ·rw [h1,k1]
 bnd:=fun n a h=>by
  rcases Wj h with h | ⟨h,rfl⟩
  ·intro k
   cases q:H a with
   | none=>exact w.bnd n a h q
   | some u=>rw [Vn hp a u q] at k; cases k
  ·rw [Wb]; simp
 cell:=fun n c' a h k=>by
  rcases Wj k with k | ⟨k,rfl⟩
  ·rcases Wj h with h | ⟨h,rfl⟩
   ·exact (w.cell n c' a h k).mono (Grow.new w hp) (Vn hp a)
   ·have:=(List.getElem?_eq_some_iff.mp k).1
    have:=w.len
    omega
  ·rcases Wj h with h | ⟨h,rfl⟩
   ·have:=(List.getElem?_eq_some_iff.mp h).1
    have:=w.len
    omega
   ·exact hc
theorem live_set {c c':Cell} (hn:μ[n]? = some c) (h1:c≠.gone) (h2:c'≠.gone):Live θ (μ.set n c') a↔Live θ μ a:=by
 constructor
 ·rintro ⟨m,e,k1,k2,k3⟩
  by_cases q:m=n
  ·subst q; exact ⟨m,c,k1,hn,h1⟩
  ·rw [List.getElem?_set_ne (Ne.symm q)] at k2; exact ⟨m,e,k1,k2,k3⟩
 ·rintro ⟨m,e,k1,k2,k3⟩
  by_cases q:m=n
  ·subst q
   refine ⟨m,c',k1,?_,h2⟩
   rw [List.getElem?_set_self (List.getElem?_eq_some_iff.mp hn).1]
  ·exact ⟨m,e,k1,by rw [List.getElem?_set_ne (Ne.symm q)]; exact k2,k3⟩
theorem Grow.write {c c':Cell} {o:HO} (hn:μ[n]? = some c) (ha:θ[n]? = some a) (h1:c≠.gone) (h2:c'≠.gone):Grow H θ μ (upd H a o) θ (μ.set n c') where
 pre:=fun _ _ h=>h
 keep:=fun b u h k=>by
  have:b≠a:=by rintro rfl; exact k ⟨n,c,ha,hn,h1⟩
  exact ⟨by rw [Va this]; exact h,fun z=>k ((live_set hn h1 h2).mp z)⟩
theorem WOk.write {c c':Cell} {o:HO} (w:WOk K H θ μ) (hn:μ[n]? = some c) (ha:θ[n]? = some a) (h1:c≠.gone) (h2:c'≠.gone) (hc:CellOk K (upd H a o) θ (μ.set n c') a c'):WOk K (upd H a o) θ (μ.set n c') where
 len:=by simp [w.len]
 inj:=w.inj
 bnd:=fun m b h k=>by
  unfold upd at k
  split at k
  ·cases k
  ·exact w.bnd m b h k
 cell:=fun m c1 b h k=>by
  by_cases q:m=n
  ·subst q
   rw [List.getElem?_set_self (List.getElem?_eq_some_iff.mp hn).1] at h
   cases h
   rw [ha] at k; cases k
   exact hc
  ·rw [List.getElem?_set_ne (Ne.symm q)] at h
   have hb:b≠a:=fun z=>q (w.inj m n b k (by rw [z]; exact ha))
   exact (w.cell m c1 b h k).mono (Grow.write hn ha h1 h2) fun u e=>by rw [Va hb]; exact e
theorem Grow.frz:Grow H θ μ H θ (μ.set n .gone) where
 pre:=fun _ _ h=>h
 keep:=fun b u h k=>⟨h,fun ⟨m,c,k1,k2,k3⟩=>by
  by_cases q:m=n
  ·subst q
   by_cases hl:m < μ.length
   ·rw [List.getElem?_set_self hl] at k2; cases k2; exact k3 rfl
   ·rw [List.set_eq_of_length_le (by omega)] at k2; exact k ⟨m,c,k1,k2,k3⟩
  ·rw [List.getElem?_set_ne (Ne.symm q)] at k2; exact k ⟨m,c,k1,k2,k3⟩⟩
theorem WOk.frz (w:WOk K H θ μ):WOk K H θ (μ.set n .gone) where
 len:=by simp [w.len]
 inj:=w.inj
 bnd:=w.bnd
 cell:=fun m c1 b h k=>by
  by_cases q:m=n
  ·subst q
   by_cases hl:m < μ.length
   ·rw [List.getElem?_set_self hl] at h; cases h; trivial
   ·rw [List.set_eq_of_length_le (by omega)] at h ⊢; exact w.cell m c1 b h k
  ·rw [List.getElem?_set_ne (Ne.symm q)] at h
   exact (w.cell m c1 b h k).mono Grow.frz fun _ e=>e
theorem V1 (w:WOk K H θ μ) (ha:θ[n]? = some a):¬ Live θ (μ.set n .gone) a:=by
 rintro ⟨m,c,k1,k2,k3⟩
 have:=w.inj m n a k1 ha
 subst this
 by_cases hl:m < μ.length
 ·rw [List.getElem?_set_self hl] at k2; cases k2; exact k3 rfl
 ·rw [List.getElem?_eq_none (by simp; omega)] at k2; cases k2
theorem WOk.list (w:WOk K H θ μ) (hn:μ[n]? = some (.lst ds)) (ha:θ[n]? = some a):∃ xs,H a=some (.lst xs)∧Rps K H θ μ ds xs:=w.cell n _ a hn ha
end
structure Sim (K:PySem.W.Frag) (σ:L2.St) (H:Hp) (ρ:Rho) (θ:List Addr) (μ:Mem):Prop where
 wok:WOk K H θ μ
 len:ρ.length=σ.length
 val:∀ (i:Nat) (d:D),ρ[i]? = some (some d)→∃ v,σ[i]? = some (some v)∧Rp K H θ μ d v
noncomputable def Fin (K:PySem.W.Frag) (H:Hp) (θ:List Addr) (μ:Mem) (Qd:QD) (Q:VK):Prop :=
 ∀ (d:D) (v:V) (H':Hp) (θ':List Addr) (μ':Mem),WOk K H' θ' μ'→Grow H θ μ H' θ' μ'→Rp K H' θ' μ' d v→Qd d μ'→Q v H'
noncomputable abbrev WE:=Rho→Mem→QD→Prop
noncomputable def LE (K:PySem.W.Frag) (w:WE):TE:=fun σ H Q=>∃ ρ θ μ Qd,Sim K σ H ρ θ μ∧w ρ μ Qd∧Fin K H θ μ Qd Q
noncomputable abbrev WT:=Rho→Mem→(Bool→Mem→Prop)→Prop
noncomputable def LT (K:PySem.W.Frag) (w:WT):TT:=fun σ H Q=>∃ ρ θ μ Qd,Sim K σ H ρ θ μ∧w ρ μ Qd ∧
 ∀ (b:Bool) (H':Hp) (θ':List Addr) (μ':Mem),WOk K H' θ' μ'→Grow H θ μ H' θ' μ'→Qd b μ'→Q b H'
noncomputable abbrev WA:=Rho→Mem→(List D→Mem→Prop)→Prop
noncomputable def LA (K:PySem.W.Frag) (w:WA):TA:=fun σ H Q=>∃ ρ θ μ Qd,Sim K σ H ρ θ μ∧w ρ μ Qd ∧
 ∀ (ds:List D) (vs:List V) (H':Hp) (θ':List Addr) (μ':Mem),WOk K H' θ' μ'→Grow H θ μ H' θ' μ'→Rps K H' θ' μ' ds vs→Qd ds μ'→Q vs H'
noncomputable abbrev WS:=DEnds→Rho→Mem→Prop
noncomputable def XLand (K:PySem.W.Frag) (E:XK) (H:Hp) (θ:List Addr) (μ:Mem) (c:String) (ks:List String) (ds:List D):Prop:=∃ C,PySem.W.nsIn K mainGlobals (Str.ofString c)=some (some (.ref C))∧∀ dx,ErrD K H θ μ ks ds dx→E (.ref C) dx H
structure FinS (K:PySem.W.Frag) (EX:L2.St→XK) (H:Hp) (θ:List Addr) (μ:Mem) (Z:DEnds) (D:Ends):Prop where
 nx:∀ σ' H' ρ' θ' μ',Sim K σ' H' ρ' θ' μ'→Grow H θ μ H' θ' μ'→Z.nx ρ' μ'→D.nx σ' H'
 rt:Fin K H θ μ Z.rt D.rt
 bk:∀ σ' H' ρ' θ' μ',Sim K σ' H' ρ' θ' μ'→Grow H θ μ H' θ' μ'→Z.bk ρ' μ'→D.bk σ' H'
 ct:∀ σ' H' ρ' θ' μ',Sim K σ' H' ρ' θ' μ'→Grow H θ μ H' θ' μ'→Z.ct ρ' μ'→D.ct σ' H'
 xc:∀ σ' H' ρ' θ' μ' c ks ds,Sim K σ' H' ρ' θ' μ'→Grow H θ μ H' θ' μ'→Z.xc ρ' c ks ds μ'→XLand K (EX σ') H' θ' μ' c ks ds
noncomputable def LS (K:PySem.W.Frag) (EX:L2.St→XK) (w:WS):TS:=fun D σ H=>∃ ρ θ μ Z,Sim K σ H ρ θ μ∧w Z ρ μ∧FinS K EX H θ μ Z D
section
variable {K:PySem.W.Frag} {H H' H'':Hp} {θ θ' θ'':List Addr} {μ μ' μ'':Mem} {σ:L2.St} {ρ:Rho} {i:Nat} {d:D} {v:V} {Qd:QD} {Q:VK}
theorem Sim.grow (s:Sim K σ H ρ θ μ) (w:WOk K H' θ' μ') (g:Grow H θ μ H' θ' μ'):Sim K σ H' ρ θ' μ' :=
 ⟨w,s.len,fun i d h=>let ⟨v,e,r⟩:=s.val i d h; ⟨v,e,g.rep r⟩⟩
theorem Sim.set (s:Sim K σ H ρ θ μ) (r:Rp K H θ μ d v) (i:Nat):Sim K (σ.set i (some v)) H (ρ.set i (some d)) θ μ :=
 ⟨s.wok,by simp [s.len],fun j e h=>by
  by_cases q:j=i
  ·subst q
   by_cases hl:j < ρ.length
   ·rw [List.getElem?_set_self hl] at h
    cases h
    exact ⟨v,by rw [List.getElem?_set_self (by rw [← s.len]; exact hl)],r⟩
   ·rw [List.getElem?_eq_none (by simp; omega)] at h; cases h
  ·rw [List.getElem?_set_ne (Ne.symm q)] at h ⊢
   exact s.val j e h⟩
theorem Fin.mono (f:Fin K H θ μ Qd Q) (g:Grow H θ μ H' θ' μ'):Fin K H' θ' μ' Qd Q:=fun d v H'' θ'' μ'' w g' r q=>f d v H'' θ'' μ'' w (g.trans g') r q
theorem Fin.at (f:Fin K H θ μ Qd Q) (w:WOk K H θ μ) (r:Rp K H θ μ d v) (q:Qd d μ):Q v H:=f d v H θ μ w Grow.refl r q
theorem FinS.mono {EX:L2.St→XK} {Z:DEnds} {D:Ends} (f:FinS K EX H θ μ Z D) (g:Grow H θ μ H' θ' μ'):FinS K EX H' θ' μ' Z D :=
 ⟨fun σ' H' ρ' θ' μ' s g' z=>f.nx σ' H' ρ' θ' μ' s (g.trans g') z,f.rt.mono g,fun σ' H' ρ' θ' μ' s g' z=>f.bk σ' H' ρ' θ' μ' s (g.trans g') z,fun σ' H' ρ' θ' μ' s g' z=>f.ct σ' H' ρ' θ' μ' s (g.trans g') z,fun σ' H' ρ' θ' μ' c ks ds s g' z=>f.xc σ' H' ρ' θ' μ' c ks ds s (g.trans g') z⟩
end
end DW
end
section
set_option autoImplicit false
namespace DW
open PySem PySem.Spec PyProof.Rows L2
section
variable {X:Cx}
theorem PE.wk {e:Expr} {t t':TE} (h:PE X e t) (m:∀ σ H Q,t' σ H Q→t σ H Q):PE X e t':=fun pins s σ H Q I hw=>h pins s σ H Q I (m σ H Q hw)
theorem PT.wk {e:Expr} {t t':TT} (h:PT X e t) (m:∀ σ H Q,t' σ H Q→t σ H Q):PT X e t':=fun pins s σ H Q I hw=>h pins s σ H Q I (m σ H Q hw)
theorem PW.wk {e:Expr} {t t':TT} (h:PW X e t) (m:∀ σ H Q,t' σ H Q→t σ H Q):PW X e t':=fun wh pins s σ H Q I hw=>h wh pins s σ H Q I (m σ H Q hw)
theorem PA.wk {es:List Expr} {t t':TA} (h:PA X es t) (m:∀ σ H Q,t' σ H Q→t σ H Q):PA X es t':=fun pos pins s σ H Q I hw=>h pos pins s σ H Q I (m σ H Q hw)
theorem PS.wk {st:Stmt} {t t':TS} (h:PS X st t) (m:∀ D σ H,t' D σ H→t D σ H):PS X st t':=fun pins s σ H D I hw=>h pins s σ H D I (m D σ H hw)
theorem PSs.wk {st:List Stmt} {t t':TS} (h:PSs X st t) (m:∀ D σ H,t' D σ H→t D σ H):PSs X st t':=fun pins s σ H D I hw=>h pins s σ H D I (m D σ H hw)
end
theorem Xv:lim=sizeLine:=by rw [sizeLine_eq]; rfl
noncomputable def low2 (K:PySem.W.Frag) (w:D→D→Mem→QD→Prop):R2:=fun x y H Q=>∃ d e θ μ Qd,WOk K H θ μ∧Rp K H θ μ d x∧Rp K H θ μ e y∧w d e μ Qd∧Fin K H θ μ Qd Q
noncomputable def lowA (K:PySem.W.Frag) (w:List D→Mem→QD→Prop):List V→Hp→VK→Prop:=fun vs H Q=>∃ ds θ μ Qd,WOk K H θ μ∧Rps K H θ μ ds vs∧w ds μ Qd∧Fin K H θ μ Qd Q
noncomputable def lowM (K:PySem.W.Frag) (w:D→List D→Mem→QD→Prop):V→List V→Hp→VK→Prop:=fun x vs H Q=>∃ d ds θ μ Qd,WOk K H θ μ∧Rp K H θ μ d x∧Rps K H θ μ ds vs∧w d ds μ Qd∧Fin K H θ μ Qd Q
section
variable {K:PySem.W.Frag} {H H':Hp} {θ θ':List Addr} {μ μ':Mem} {σ:L2.St} {ρ:Rho} {Qd:QD} {Q:VK} {ds:List D} {xs:List V} {p a:Addr}
theorem Zbf:Rp K H θ μ .non .non:=by unfold Rep; rfl
theorem Wn {b:Bool}:Rp K H θ μ (.bl b) (.bl b):=by unfold Rep; rfl
theorem Yc {i:Int}:Rp K H θ μ (.int i) (.int i):=by unfold Rep; rfl
theorem Z8 {x:List Nat} (h:x.length≤sizeLine):Rp K H θ μ (.str x) (.str ⟨x.toArray⟩):=by unfold Rep; exact ⟨rfl,h⟩
theorem Xz {v:V} (h:Rp K H θ μ .non v):v = .non:=by unfold Rep at h; exact h
theorem Zi {b:Bool} {v:V} (h:Rp K H θ μ (.bl b) v):v = .bl b:=by unfold Rep at h; exact h
theorem Zb {i:Int} {v:V} (h:Rp K H θ μ (.int i) v):v = .int i:=by unfold Rep at h; exact h
theorem Wd {x:List Nat} {v:V} (h:Rp K H θ μ (.str x) v):v = .str ⟨x.toArray⟩∧x.length≤sizeLine:=by unfold Rep at h; exact h
theorem We {v:V} (h:Rp K H θ μ (.tup ds) v):∃ a xs,v = .ref a∧H a=some (.tup xs)∧¬ Live θ μ a∧Rps K H θ μ ds xs:=by unfold Rep at h; exact h
theorem Xh {v:V} (h:Rp K H θ μ (.lst ds) v):∃ a xs,v = .ref a∧H a=some (.lst xs)∧¬ Live θ μ a∧Rps K H θ μ ds xs:=by unfold Rep at h; exact h
theorem inv_ro {v:V} (h:Rp K H θ μ (.ro ds) v):∃ a xs,v = .ref a∧((∃ o,H a=some (.frz o (.lst xs))∧¬ Live θ μ a)∨KL K a xs)∧Rps K H θ μ ds xs:=by unfold Rep at h; exact h
theorem Zc {n:Nat} {v:V} (h:Rp K H θ μ (.loc n) v):∃ a,v = .ref a∧θ[n]? = some a:=by unfold Rep at h; exact h
theorem Ya7 {ks:List DKey} {v:V} (h:Rp K H θ μ (.dic ks ds) v):∃ a kvs,v = .ref a∧H a=some (.dK kvs)∧¬ Live θ μ a∧kvs.map (·.1)=ks.map keyOf∧Rps K H θ μ ds (kvs.map (·.2)):=by unfold Rep at h; exact h
theorem inv_fdc {ks:List DKey} {v:V} (h:Rp K H θ μ (.fdc ks ds) v):∃ a o kvs,v = .ref a∧H a=some (.frz o (.dK kvs))∧¬ Live θ μ a∧kvs.map (·.1)=ks.map keyOf∧Rps K H θ μ ds (kvs.map (·.2)):=by unfold Rep at h; exact h
theorem SqL_ro (h:(∃ o,H a=some (.frz o (.lst xs))∧¬ Live θ μ a)∨KL K a xs):SqL K H a xs:=by
 rcases h with ⟨o,h,_⟩ | h
 ·exact .inl (.inr ⟨o,h⟩)
 ·exact .inr h
theorem Vi {d:D} {v:V} (wk:WOk K H θ μ) (r:Rp K H θ μ d v) (h:Yb μ d=some ds):∃ a xs,v = .ref a∧(SqL K H a xs∨SqT K H a xs)∧Rps K H θ μ ds xs:=by
 cases d with
 | lst es=>simp only [Yb,Option.some.injEq] at h; subst h; obtain ⟨a,xs,e,h1,_,h3⟩:=Xh r; exact ⟨a,xs,e,.inl (.of h1),h3⟩
 | tup es=>simp only [Yb,Option.some.injEq] at h; subst h; obtain ⟨a,xs,e,h1,_,h3⟩:=We r; exact ⟨a,xs,e,.inr (.of h1),h3⟩
 | ro es=>simp only [Yb,Option.some.injEq] at h; subst h; obtain ⟨a,xs,e,h1,h3⟩:=inv_ro r; exact ⟨a,xs,e,.inl (SqL_ro h1),h3⟩
 | loc n =>
  obtain ⟨a,e,h1⟩:=Zc r
  simp only [Yb] at h
  split at h
  ·rename_i es hn
   simp only [Option.some.injEq] at h; subst h
   obtain ⟨xs,h2,h3⟩:=wk.list hn h1
   exact ⟨a,xs,e,.inl (.of h2),h3⟩
  ·cases h
 | _=>simp [Yb] at h
theorem Yz (wk:WOk K H θ μ) (f:Fin K H θ μ Qd Q) (r:Rps K H θ μ ds xs) (h:Qd (.tup ds) μ) (hp:H p=none):Q (.ref p) (upd H p (.tup xs)):=by
 refine f (.tup ds) (.ref p) _ θ μ (wk.ext (Vn hp)) (Grow.ext (Vn hp)) ?_ h
 unfold Rep
 exact ⟨p,xs,rfl,Wb,wk.notLive hp,(Grow.ext (Vn hp)).reps r⟩
theorem Vak (wk:WOk K H θ μ) (f:Fin K H θ μ Qd Q) (r:Rps K H θ μ ds xs) (h:Qd (.lst ds) μ) (hp:H p=none):Q (.ref p) (upd H p (.lst xs)):=by
 refine f (.lst ds) (.ref p) _ θ μ (wk.ext (Vn hp)) (Grow.ext (Vn hp)) ?_ h
 unfold Rep
 exact ⟨p,xs,rfl,Wb,wk.notLive hp,(Grow.ext (Vn hp)).reps r⟩
theorem new_cell (wk:WOk K H θ μ) (f:Fin K H θ μ Qd Q) (r:Rps K H θ μ ds xs) (h:Qd (.loc μ.length) (μ ++ [.lst ds])) (hp:H p=none):Q (.ref p) (upd H p (.lst xs)):=by
 have g:Grow H θ μ (upd H p (.lst xs)) (θ ++ [p]) (μ ++ [.lst ds]):=Grow.new wk hp
 refine f (.loc μ.length) (.ref p) _ (θ ++ [p]) (μ ++ [.lst ds]) (wk.new (c:=.lst ds) hp (show CellOk K _ _ _ p (.lst ds) from ⟨xs,Wb,g.reps r⟩)) g ?_ h
 unfold Rep
 exact ⟨p,rfl,by rw [← wk.len]; simp⟩
theorem Yp {m:Bool} (wk:WOk K H θ μ) (f:Fin K H θ μ Qd Q) (r:Rps K H θ μ ds xs) (h:newL m ds μ Qd) (hp:H p=none):Q (.ref p) (upd H p (.lst xs)):=by
 cases m with
 | true=>exact new_cell wk f r h hp
 | false=>exact Vak wk f r h hp
end
section
variable {K:PySem.W.Frag} {σ:L2.St} {H:Hp} {Q:VK} {wa wb wc:WE}
theorem Zaa {w:D→D→Mem→QD→Prop} (h:LE K (fun ρ μ Q=>wa ρ μ fun x μ1=>wb ρ μ1 fun y μ2=>w x y μ2 Q) σ H Q):tOp (low2 K w) (LE K wa) (LE K wb) σ H Q:=by
 obtain ⟨ρ,θ,μ,Qd,s,h,f⟩:=h
 refine ⟨ρ,θ,μ,_,s,h,fun x v H1 θ1 μ1 w1 g1 r1 h1=>⟨ρ,θ1,μ1,_,s.grow w1 g1,h1,fun y v2 H2 θ2 μ2 w2 g2 r2 h2=>?_⟩⟩
 exact ⟨x,y,θ2,μ2,Qd,w2,g2.rep r1,r2,h2,f.mono (g1.trans g2)⟩
theorem le_args {w:List D→Mem→QD→Prop} {ws:WA} (h:LE K (fun ρ μ Q=>ws ρ μ fun ds μ1=>w ds μ1 Q) σ H Q):LA K ws σ H (fun vs H1=>lowA K w vs H1 Q):=by
 obtain ⟨ρ,θ,μ,Qd,s,h,f⟩:=h
 exact ⟨ρ,θ,μ,_,s,h,fun ds vs H1 θ1 μ1 w1 g1 r1 h1=>⟨ds,θ1,μ1,Qd,w1,r1,h1,f.mono g1⟩⟩
theorem la_cons {ws:WA} {Q:List V→Hp→Prop} (h:LA K (fun ρ μ Q=>wa ρ μ fun d μ1=>ws ρ μ1 fun ds μ2=>Q (d :: ds) μ2) σ H Q):tCons (LE K wa) (LA K ws) σ H Q:=by
 obtain ⟨ρ,θ,μ,Qd,s,h,f⟩:=h
 refine ⟨ρ,θ,μ,_,s,h,fun x v H1 θ1 μ1 w1 g1 r1 h1=>⟨ρ,θ1,μ1,_,s.grow w1 g1,h1,fun ds vs H2 θ2 μ2 w2 g2 r2 h2=>?_⟩⟩
 exact f (x :: ds) (v :: vs) H2 θ2 μ2 w2 (g1.trans g2) (.cons (g2.rep r1) r2) h2
end
section
variable {X:Cx}
theorem pa_nilD:PA X [] (LA X.K (fun _ μ Q=>Q [] μ)):=PA.wk pa_nil fun σ H Q h=>by
 obtain ⟨ρ,θ,μ,Qd,s,h,f⟩:=h
 exact f [] [] H θ μ s.wok Grow.refl Reps.nil h
theorem pa_consD {e:Expr} {es:List Expr} {wa:WE} {ws:WA} (h1:PE X e (LE X.K wa)) (h2:PA X es (LA X.K ws)) (hs:starEach (e :: es) X.env=(false,eval e X.env) :: starEach es X.env) :
  PA X (e :: es) (LA X.K (fun ρ μ Q=>wa ρ μ fun d μ1=>ws ρ μ1 fun ds μ2=>Q (d :: ds) μ2)):=PA.wk (Xak h1 h2 hs) fun σ H Q h=>la_cons h
theorem pe_varD {i:Nat} {x:Str} {pos:Pos} (hN:X.N[i]? = some x) (hv:Vis X.env.scope x) (hd:(x == ("__debug__" : Str))=false) (hcd:(x == ("__classdict__" : Str))=false) :
  PE X (.Name x pos) (LE X.K (fun ρ μ Q=>match ρ[i]? with | some (some d)=>Q d μ | _=>False)):=PE.wk (pe_var hN hv hd hcd) fun σ H Q h=>by
 obtain ⟨ρ,θ,μ,Qd,s,h,f⟩:=h
 split at h
 ·rename_i d e
  obtain ⟨v,e1,r⟩:=s.val i d e
  exact ⟨v,e1,f.at s.wok r h⟩
 ·exact h.elim
theorem W5 {v:V} {d:D} (r:∀ H θ μ,Rp X.K H θ μ d v) {σ:L2.St} {H:Hp} {Q:VK} (h:LE X.K (fun _ μ Q=>Q d μ) σ H Q):tC v σ H Q:=by
 obtain ⟨ρ,θ,μ,Qd,s,h,f⟩:=h
 exact f.at s.wok (r H θ μ) h
theorem op_fdivB:OpR X (binaryOp .FloorDiv) (rI (fun _ j=>CDivD j) fun i j=>.int (i / j)):=opI fun i j _ _ _ _ _ hc q=>by
 have h1:(0:Int) < j:=hc.1
 have h2:j < 2 ^ 500:=hc.2
 refine floordiv_int (by omega) ?_ (.inl (PyProof.noPylong_of_log2 ?_))
 ·rw [Int.fdiv_eq_ediv_of_nonneg i (by omega)]; exact q
 ·have h3:j.natAbs < 2 ^ 500:=by omega
  have h4:j.natAbs≠0:=by omega
  have:=(Nat.log2_lt h4).mpr h3
  omega
theorem op_shl:OpR X (binaryOp .LShift) (rI (fun i j=>0≤j∧j≤1000∧i.natAbs < 2 ^ 64) fun i j=>.int (i * 2 ^ j.toNat)):=opI fun i j _ _ _ _ _ hc q=>lshift_int_small hc.1 (by omega) hc.2.2 q
theorem op_shr:OpR X (binaryOp .RShift) (rI (fun i j=>0≤j) fun i j=>.int (i / 2 ^ j.toNat)):=opI fun i j _ _ _ _ _ hc q=>by
 refine rshift_int hc ?_
 rw [Int.fdiv_eq_ediv_of_nonneg i (Int.le_of_lt (Int.pow_pos (by decide)))]; exact q
theorem and_one {i:Int} (h:0≤i):Builtin.bitAnd i 1=i % 2:=by
 obtain ⟨n,rfl⟩:=Int.eq_ofNat_of_zero_le h
 have e:Builtin.bitAnd (n:Int) 1=((n &&& 1:Nat):Int):=by unfold Builtin.bitAnd; simp
 rw [e,Nat.and_one_is_mod]; omega
theorem op_and1:OpR X (binaryOp .BitAnd) (rI (fun i j=>0≤i∧j=1) fun i j=>.int (i % 2)):=opI fun i j _ _ _ _ _ hc q=>by
 obtain ⟨h0,rfl⟩:=hc
 refine and_int ?_
 rw [and_one h0]; exact q
theorem tup_add0 {prog:Program} {w:World} {A:Around} {E:Value→Shared→Prop} {s:Shared} {t b:Addr} {vs ws:List Value} {Q:Value→Shared→Prop} (ht:IsTup s.heap t vs.toArray) (hb:IsTup s.heap b ws.toArray) (hv:vs=[]) (h:Q (.ref b) s) :
  wpAny (model prog w) A (binaryOp .Add (.ref t) (.ref b)) Q E s:=by
 obtain ⟨⟨c1,d1,a1,s1⟩,g1,e1,n1,f1⟩:=id ht
 obtain ⟨⟨c2,d2,a2,s2⟩,g2,e2,n2,f2⟩:=id hb
 cases e1
 cases f1
 cases e2
 cases f2
 refine concat_meets ⟨_,g1,rfl⟩ ⟨_,g2,rfl⟩ noFill_tuple_add seq_tuple_add
  PySem.F.slot_tuple_add PySem.F.entry_tuple_add (PySem.F.args_tuple_add_2 _ _) (tuple_addW0 t b vs.toArray ws.toArray n1 n2 d1 d2 s1 s2 ?_) ⟨g1,g2,h⟩
 rw [hv]; rfl
theorem bin_ok (op:Operator):OpR X (binaryOp op) (low2 X.K (wBin op)):=by
 intro pins s σ H x y v u Q I rx ry h
 obtain ⟨d,e,θ,μ,Qd,wk,rd,re,hw,f⟩:=h
 unfold wBin at hw
 split at hw
 ·rename_i i j
  have ex:=Zb rd
  have ey:=Zb re
  split at hw
  ·exact op_add pins s σ H x y v u Q I rx ry ⟨i,j,ex,ey,f.at wk Yc hw⟩
  ·exact op_sub pins s σ H x y v u Q I rx ry ⟨i,j,ex,ey,f.at wk Yc hw⟩
  ·exact op_mul pins s σ H x y v u Q I rx ry ⟨i,j,ex,ey,hw.1,f.at wk Yc hw.2⟩
  ·exact op_fdivB pins s σ H x y v u Q I rx ry ⟨i,j,ex,ey,hw.1,f.at wk Yc hw.2⟩
  ·exact op_mod pins s σ H x y v u Q I rx ry ⟨i,j,ex,ey,hw.1,f.at wk Yc hw.2⟩
  ·exact op_pow pins s σ H x y v u Q I rx ry ⟨i,j,ex,ey,hw.1,f.at wk Yc hw.2⟩
  ·exact op_shl pins s σ H x y v u Q I rx ry ⟨i,j,ex,ey,hw.1,f.at wk Yc hw.2⟩
  ·exact op_shr pins s σ H x y v u Q I rx ry ⟨i,j,ex,ey,hw.1,f.at wk Yc hw.2⟩
  ·exact op_and1 pins s σ H x y v u Q I rx ry ⟨i,j,ex,ey,hw.1,f.at wk Yc hw.2⟩
  ·exact hw.elim
 ·rename_i a b
  obtain ⟨ex,hx⟩:=Wd rd
  obtain ⟨ey,hy⟩:=Wd re
  split at hw
  ·have hl:(a ++ b).length≤sizeLine:=by rw [List.length_append,← Xv]; exact hw.1
   have hq:=f.at wk (Z8 hl) hw.2
   refine op_add_str pins s σ H x y v u Q I rx ry ⟨_,_,ex,ey,?_,?_⟩
   ·show a.toArray.size + b.toArray.size≤_
    rw [← Xv]; simpa using hw.1
   ·have e:(⟨a.toArray⟩ ++ ⟨b.toArray⟩:Str)=⟨(a ++ b).toArray⟩:=by
     show Str.mk (a.toArray ++ b.toArray)=_
     simp
    rw [e]; exact hq
  ·exact hw.elim
 ·rename_i a n
  obtain ⟨rfl,hx⟩:=Wd rd
  cases Zb re
  split at hw
  ·obtain ⟨⟨n2,n3,a1,a2⟩,hq⟩:=hw
   obtain ⟨t,rfl⟩:=rx
   obtain ⟨u',rfl⟩:=ry
   have hal:(⟨a.toArray⟩:Str).length=a.length:=by simp [Str.length]
   have hflat:∀ (m:Nat) (acc:Array Nat),((List.replicate m a.toArray).foldl (· ++ ·) acc).toList=acc.toList ++ (List.replicate m a).flatten:=by
    intro m
    induction m with
    | zero=>intro acc; simp
    | succ m ih=>intro acc; rw [List.replicate_succ,List.foldl_cons,ih]; simp [List.replicate_succ]
   have hlen:(List.replicate n.toNat a).flatten.length=n.toNat * a.length:=by simp
   have hle:n.toNat * a.length≤1000 * 1000:=Nat.mul_le_mul (by omega) a2
   have hln:(List.replicate n.toNat a).flatten.length≤sizeLine:=by rw [hlen,sizeLine_eq]; omega
   have e:(⟨(List.replicate n.toNat (⟨a.toArray⟩:Str).cps).foldl (· ++ ·) #[]⟩:Str)=⟨(List.replicate n.toNat a).flatten.toArray⟩:=by
    have:=hflat n.toNat #[]
    congr 1
    apply Array.toList_inj.mp
    simpa using this
   refine PySem.P.mul_str (by rw [decide_eq_false (by omega),decide_eq_false (by omega)]; rfl) (fun _ _=>?_) (fun _ _=>?_) ?_
   ·rw [hal]
    have:(1000:Int)≤(2 ^ 63 - 1) / n:=(Int.le_ediv_iff_mul_le (by omega)).mpr (by omega)
    omega
   ·rw [hal]
    have h3:a.length * n.toNat≤1000000:=by rw [Nat.mul_comm]; omega
    unfold Builtin.Str.tooLong
    exact decide_eq_false (Nat.not_lt.mpr (Nat.le_trans h3 (by rw [sizeLine_eq]; decide)))
   ·rw [if_neg (by omega),if_neg (by rw [hal]; simp only [Bool.or_eq_true,beq_iff_eq]; omega),e]
    exact ⟨by simpa [Str.length] using hln,.str _,H,I.tok _,⟨_,rfl⟩,f.at wk (Z8 hln) hq⟩
  ·exact hw.elim
 ·rename_i a b
  obtain ⟨p,xs,ex,hx,_,r1⟩:=Xh rd
  obtain ⟨q,ys,ey,hy,_,r2⟩:=Xh re
  split at hw
  ·have l1:=r1.length
   have l2:=r2.length
   refine op_cat pins s σ H x y v u Q I rx ry ⟨p,q,xs,ys,ex,ey,hx,hy,by have h1:=hw.1; rw [l1,l2,Xv] at h1; exact h1,fun z hz=>?_⟩
   exact Vak wk f (r1.append r2) hw.2 hz
  ·exact hw.elim
 ·rename_i a b
  obtain ⟨p,xs,ex,hx,nx,r1⟩:=We rd
  obtain ⟨q,ys,ey,hy,_,r2⟩:=We re
  split at hw
  ·obtain ⟨h2,h3⟩:=hw
   have l1:=r1.length
   have l2:=r2.length
   by_cases h1:a=[]
   ·subst h1
    rw [List.nil_append] at h3
    subst ex ey
    cases rx
    cases ry
    obtain ⟨its,q1,p1,_⟩:=I.tuple (SqT.of hx)
    obtain ⟨its2,q2,p2,_⟩:=I.tuple (SqT.of hy)
    have e1:its=[]:=List.length_eq_zero_iff.mp (by rw [← q1.length,← l1]; rfl)
    exact tup_add0 p1 p2 e1 ⟨.ref q,H,I,rfl,f.at wk re h3⟩
   refine op_catT pins s σ H x y v u Q I rx ry ⟨p,q,xs,ys,ex,ey,.of hx,.of hy,?_,by rw [l1,l2,Xv] at h2; exact h2,fun z=>?_,fun z w hw'=>Yz wk f (r1.append r2) h3 hw'⟩
   ·intro z; rw [z] at l1; exact h1 (List.length_eq_zero_iff.mp l1)
   ·rw [z] at l2
    have e:b=[]:=List.length_eq_zero_iff.mp l2
    rw [e,List.append_nil] at h3
    rw [← ex]
    exact f.at wk rd h3
  ·exact hw.elim
 ·exact hw.elim
end
end DW
end
section
set_option autoImplicit false
namespace DW
open PySem
structure Ctx where
 N:List Str
 names:List (Str×NameKind)
 blts:List Str
 calm:Bool
 rs:Bool
noncomputable abbrev Ctx.in_ (c:Ctx) (N:List Str) (names:List (Str×NameKind)):Ctx:=⟨N,names,c.blts,c.calm,true⟩
noncomputable abbrev Ctx.of (N:List Str) (names:List (Str×NameKind)) (blts:List Str):Ctx:=⟨N,names,blts,true,true⟩
noncomputable def Ctx.vis (c:Ctx) (x:Str):Bool:=match c.names.lookup x with
 | some .local=>true
 | some .cell=>true
 | some .free=>true
 | _=>false
noncomputable def Ctx.loc (c:Ctx) (x:Str):Bool:=match c.names.lookup x with
 | some .local=>true
 | some .cell=>true
 | _=>false
noncomputable def Ctx.glb (c:Ctx) (x:Str):Bool:=match c.names.lookup x with
 | some .globalImplicit=>true
 | _=>false
noncomputable def Ctx.at_ (c:Ctx) (i:Nat) (x:Str):Bool:=match c.N[i]? with
 | some y=>decide (y=x)
 | none=>false
noncomputable def Zz (x:Str):Bool:=(x == ("__debug__" : Str)) || (x == ("__classdict__" : Str))
noncomputable def mC:Const→D→Bool
 | .none,.non=>true
 | .bool a,.bl b=>a == b
 | .int i,.int j=>i == j
 | .str s,.str x=>decide (s.cps.toList=x) && decide (x.length≤16777216)
 | _,_=>false
noncomputable def notStar:Expr→Bool
 | .Starred ..=>false
 | _=>true
noncomputable def Xl:Expr→Bool
 | .Set ..=>false
 | _=>true
noncomputable def Yh:Expr→Bool
 | .ListComp ..=>false
 | .SetComp ..=>false
 | .DictComp ..=>false
 | _=>true
noncomputable def Vg:Expr→Bool
 | .Name ..=>true
 | .Constant ..=>true
 | .BinOp ..=>true
 | .UnaryOp ..=>true
 | .Call ..=>true
 | .Subscript ..=>true
 | .Attribute ..=>true
 | .Tuple ..=>true
 | _=>false
noncomputable def baseB:Expr→Bool
 | .Name ..=>true
 | .Subscript ..=>true
 | .Attribute ..=>true
 | .Constant ..=>true
 | .Call (.Name ..) (_ :: _) _ _=>true
 | _=>false
theorem Xah {f:Expr} {as:List Expr} {ks:List Keyword} {p:Pos} (h:baseB (.Call f as ks p)=true):∃ x q a r,f = .Name x q∧as=a :: r:=by
 cases f with
 | Name x q=>cases as with
  | nil=>exact (Bool.false_ne_true h).elim
  | cons a r=>exact ⟨x,q,a,r,rfl,rfl⟩
 | _=>exact (Bool.false_ne_true h).elim
noncomputable def bname (x:String):Str:=if x = "mlist" then "list" else if x = "msorted" then "sorted" else if x = "isorted" then "sorted" else if x = "dsorted" then "sorted" else if x = "min3" then "min" else if x = "tsorted" then "sorted" else if x = "mtsorted" then "sorted" else Str.ofString x
noncomputable def Xf (c:Ctx) (x:Str):Bool:=c.glb x && c.blts.contains x
noncomputable def keyC:Option Expr→DKey→Bool
 | some (.Constant (.int i) _ _),.inl j=>i == j
 | some (.Constant (.str s) _ _),.inr x=>decide (s.cps.toList=x)
 | _,_=>false
noncomputable def Zm (c:Ctx):List Nat→Option (List Str)
 | []=>some []
 | i :: is=>match c.N[i]?,Zm c is with
  | some x,some r=>some (x :: r)
  | _,_=>none
noncomputable def Xa8 (c:Ctx) (scope:Scope) (Nc:List Str) (cap:List Str):Bool :=
 (scope.kind == .function) && scope.names.all (fun y=>y.2 != .cell || (scope.names.lookup y.1 == some .cell)) && scope.names.all (fun y=>y.2 != .local || (scope.names.lookup y.1 == some .local)) &&
 decide (Nc.Nodup) && cap.all (fun y=>scope.names.lookup y == some .free) && scope.names.all (fun y=>y.2 != .free || (c.names.lookup y.1 == some .cell || c.names.lookup y.1 == some .free))
noncomputable def namesOf:List Expr→Option (List Str)
 | []=>some []
 | .Name x _ :: as=>(namesOf as).map (x :: ·)
 | _ :: _=>none
noncomputable def Wai (tt:Bool) (a:Expr):Option (List Str):=match tt with
 | false=>match a with | .Name x _=>some [x] | _=>none
 | true=>match a with | .Tuple ts _ _=>namesOf ts | _=>none
noncomputable def Wl (c:Ctx):List Nat→List Expr→Bool
 | [],[]=>true
 | i :: is,a :: as=>(match a with | .Name x _=>c.at_ i x && c.loc x | _=>false) && Wl c is as
 | _,_=>false
noncomputable def mTg (c:Ctx) (is:List Nat) (tt:Bool) (a:Expr):Bool :=
 match tt with
 | false=>Wl c is [a]
 | true=>match a with | .Tuple ts _ _=>Wl c is ts | _=>false
noncomputable def Xaq (tt:Bool):It→Bool
 | _=>true
noncomputable def opt {α:Type} (o:Option α) (f:α→Bool):Bool:=match o with
 | some x=>f x
 | none=>false
theorem Wa {α:Type} {o:Option α} {f:α→Bool} (h:opt o f=true):∃ x,o=some x∧f x=true:=by
 cases o with
 | none=>exact (Bool.false_ne_true h).elim
 | some x=>exact ⟨x,rfl,h⟩
theorem Za {α:Type} {x:α} {P:Prop} (h:none=some x):P:=(Option.some_ne_none x h.symm).elim
noncomputable def Wa3:Expr→Option Str
 | .Name x _=>some x
 | _=>none
theorem X7 {a:Expr} {t:Str} (h:Wa3 a=some t):∃ p,a = .Name t p:=by
 cases a with
 | Name x p=>cases Option.some.inj (show some x=some t from h); exact ⟨p,rfl⟩
 | _=>exact Za h
noncomputable def vConst:Expr→Option Const
 | .Constant k _ _=>some k
 | _=>none
theorem vConst_inv {a:Expr} {t:Const} (h:vConst a=some t):∃ j p,a = .Constant t j p:=by
 cases a with
 | Constant k j p=>cases Option.some.inj (show some k=some t from h); exact ⟨j,p,rfl⟩
 | _=>exact Za h
noncomputable def vBin:Expr→Option (Expr×Operator×Expr)
 | .BinOp l o r _=>some (l,o,r)
 | _=>none
theorem Xbc {a:Expr} {t:(Expr×Operator×Expr)} (h:vBin a=some t):∃ p,a = .BinOp t.1 t.2.1 t.2.2 p:=by
 cases a with
 | BinOp l o r p=>cases Option.some.inj (show some (l,o,r)=some t from h); exact ⟨p,rfl⟩
 | _=>exact Za h
noncomputable def vSub:Expr→Option (Expr×Expr)
 | .Subscript x y _=>some (x,y)
 | _=>none
theorem W4 {a:Expr} {t:(Expr×Expr)} (h:vSub a=some t):∃ p,a = .Subscript t.1 t.2 p:=by
 cases a with
 | Subscript x y p=>cases Option.some.inj (show some (x,y)=some t from h); exact ⟨p,rfl⟩
 | _=>exact Za h
noncomputable def vTup:Expr→Option (List Expr)
 | .Tuple x _ _=>some x
 | _=>none
theorem Wbb {a:Expr} {t:(List Expr)} (h:vTup a=some t):∃ k p,a = .Tuple t k p:=by
 cases a with
 | Tuple x k p=>cases Option.some.inj (show some x=some t from h); exact ⟨k,p,rfl⟩
 | _=>exact Za h
noncomputable def vLst:Expr→Option (List Expr)
 | .List x _=>some x
 | _=>none
theorem vLst_inv {a:Expr} {t:(List Expr)} (h:vLst a=some t):∃ p,a = .List t p:=by
 cases a with
 | List x p=>cases Option.some.inj (show some x=some t from h); exact ⟨p,rfl⟩
 | _=>exact Za h
noncomputable def vNeg:Expr→Option Expr
 | .UnaryOp .USub l _=>some l
 | _=>none
theorem vNeg_inv {a:Expr} {t:Expr} (h:vNeg a=some t):∃ p,a = .UnaryOp .USub t p:=by
 cases a with
 | UnaryOp o l p =>
  cases o with
  | USub=>cases Option.some.inj (show some l=some t from h); exact ⟨p,rfl⟩
  | _=>exact Za h
 | _=>exact Za h
noncomputable def vNot:Expr→Option Expr
 | .UnaryOp .Not l _=>some l
 | _=>none
theorem vNot_inv {a:Expr} {t:Expr} (h:vNot a=some t):∃ p,a = .UnaryOp .Not t p:=by
 cases a with
 | UnaryOp o l p =>
  cases o with
  | Not=>cases Option.some.inj (show some l=some t from h); exact ⟨p,rfl⟩
  | _=>exact Za h
 | _=>exact Za h
noncomputable def vCmp:Expr→Option (Expr×CmpOp×Expr)
 | .Compare l [o] [r] _=>some (l,o,r)
 | _=>none
theorem Ybc {a:Expr} {t:(Expr×CmpOp×Expr)} (h:vCmp a=some t):∃ p,a = .Compare t.1 [t.2.1] [t.2.2] p:=by
 cases a with
 | Compare l os rs p =>
  match os,rs,h with
  | [o],[r],h=>cases Option.some.inj (show some (l,o,r)=some t from h); exact ⟨p,rfl⟩
  | [],_,h=>exact Za h
  | _ :: _ :: _,_,h=>exact Za h
  | [_],[],h=>exact Za h
  | [_],_ :: _ :: _,h=>exact Za h
 | _=>exact Za h
noncomputable def vCmp2:Expr→Option (Expr×CmpOp×CmpOp×Expr×Expr)
 | .Compare l [o,q] [m,r] _=>some (l,o,q,m,r)
 | _=>none
theorem vCmp2_inv {a:Expr} {t:(Expr×CmpOp×CmpOp×Expr×Expr)} (h:vCmp2 a=some t):∃ p,a = .Compare t.1 [t.2.1,t.2.2.1] [t.2.2.2.1,t.2.2.2.2] p:=by
 cases a with
 | Compare l os rs p =>
  match os,rs,h with
  | [o,q],[m,r],h=>cases Option.some.inj (show some (l,o,q,m,r)=some t from h); exact ⟨p,rfl⟩
  | [],_,h=>exact Za h
  | [_],_,h=>exact Za h
  | _ :: _ :: _ :: _,_,h=>exact Za h
  | [_,_],[],h=>exact Za h
  | [_,_],[_],h=>exact Za h
  | [_,_],_ :: _ :: _ :: _,h=>exact Za h
 | _=>exact Za h
noncomputable def vAnd:Expr→Option (Expr×Expr)
 | .BoolOp .And (v :: w :: rest) p=>some (v,match rest with | []=>w | _ :: _=>.BoolOp .And (w :: rest) p)
 | _=>none
theorem vAnd_inv {a:Expr} {t:Expr×Expr} (h:vAnd a=some t):(∃ p,a = .BoolOp .And [t.1,t.2] p)∨∃ w z rest p,a = .BoolOp .And (t.1 :: w :: z :: rest) p∧t.2 = .BoolOp .And (w :: z :: rest) p:=by
 cases a with
 | BoolOp o vs p =>
  cases o with
  | And =>
   match vs,h with
   | [v,w],h=>cases Option.some.inj (show some (v,w)=some t from h); exact .inl ⟨p,rfl⟩
   | v :: w :: z :: rest,h=>cases Option.some.inj (show some (v,.BoolOp .And (w :: z :: rest) p)=some t from h); exact .inr ⟨w,z,rest,p,rfl,rfl⟩
   | [],h=>exact Za h
   | [_],h=>exact Za h
  | _=>exact Za h
 | _=>exact Za h
noncomputable def vOr:Expr→Option (Expr×Expr)
 | .BoolOp .Or (v :: w :: rest) p=>some (v,match rest with | []=>w | _ :: _=>.BoolOp .Or (w :: rest) p)
 | _=>none
theorem vOr_inv {a:Expr} {t:Expr×Expr} (h:vOr a=some t):(∃ p,a = .BoolOp .Or [t.1,t.2] p)∨∃ w z rest p,a = .BoolOp .Or (t.1 :: w :: z :: rest) p∧t.2 = .BoolOp .Or (w :: z :: rest) p:=by
 cases a with
 | BoolOp o vs p =>
  cases o with
  | Or =>
   match vs,h with
   | [v,w],h=>cases Option.some.inj (show some (v,w)=some t from h); exact .inl ⟨p,rfl⟩
   | v :: w :: z :: rest,h=>cases Option.some.inj (show some (v,.BoolOp .Or (w :: z :: rest) p)=some t from h); exact .inr ⟨w,z,rest,p,rfl,rfl⟩
   | [],h=>exact Za h
   | [_],h=>exact Za h
  | _=>exact Za h
 | _=>exact Za h
noncomputable def Vx:Expr→Option (Str×List Expr)
 | .Call (.Name y _) as [] _=>some (y,as)
 | _=>none
theorem Vj {a:Expr} {t:(Str×List Expr)} (h:Vx a=some t):∃ p q,a = .Call (.Name t.1 p) t.2 [] q:=by
 cases a with
 | Call f as ks q =>
  cases f with
  | Name y p =>
   cases ks with
   | nil=>cases Option.some.inj (show some (y,as)=some t from h); exact ⟨p,q,rfl⟩
   | cons _ _=>exact Za h
  | _=>exact Za h
 | _=>exact Za h
noncomputable def vCallK:Expr→Option (Str×Expr×Keyword)
 | .Call (.Name y _) [l] [k] _=>some (y,l,k)
 | _=>none
theorem vCallK_inv {a:Expr} {t:(Str×Expr×Keyword)} (h:vCallK a=some t):∃ p q,a = .Call (.Name t.1 p) [t.2.1] [t.2.2] q:=by
 cases a with
 | Call f as ks q =>
  cases f with
  | Name y p =>
   match as,ks,h with
   | [l],[k],h=>cases Option.some.inj (show some (y,l,k)=some t from h); exact ⟨p,q,rfl⟩
   | [],_,h=>exact Za h
   | [_],[],h=>exact Za h
   | [_],_ :: _ :: _,h=>exact Za h
   | _ :: _ :: _,_,h=>exact Za h
  | _=>exact Za h
 | _=>exact Za h
noncomputable def vMeth:Expr→Option (Expr×Str×List Expr×Bool)
 | .Call (.Attribute o m p) as [] q=>some (o,m,as,p.endLine == q.line)
 | _=>none
theorem vMeth_inv {a:Expr} {t:(Expr×Str×List Expr×Bool)} (h:vMeth a=some t):∃ p q,a = .Call (.Attribute t.1 t.2.1 p) t.2.2.1 [] q∧t.2.2.2=(p.endLine == q.line):=by
 cases a with
 | Call f as ks q =>
  cases f with
  | Attribute o m p =>
   cases ks with
   | nil=>cases Option.some.inj (show some (o,m,as,p.endLine == q.line)=some t from h); exact ⟨p,q,rfl,rfl⟩
   | cons _ _=>exact Za h
  | _=>exact Za h
 | _=>exact Za h
noncomputable def vSlc:Expr→Option (Expr×Option Expr×Option Expr)
 | .Subscript x (.Slice lo hi none _) _=>some (x,lo,hi)
 | _=>none
theorem vSlc_inv {a:Expr} {t:(Expr×Option Expr×Option Expr)} (h:vSlc a=some t):∃ p q,a = .Subscript t.1 (.Slice t.2.1 t.2.2 none p) q:=by
 cases a with
 | Subscript x y q =>
  cases y with
  | Slice lo hi st p =>
   cases st with
   | none=>cases Option.some.inj (show some (x,lo,hi)=some t from h); exact ⟨p,q,rfl⟩
   | some _=>exact Za h
  | _=>exact Za h
 | _=>exact Za h
noncomputable def vTwo:List Expr→Option (Expr×Expr)
 | [x,y]=>some (x,y)
 | _=>none
theorem vTwo_inv {a:List Expr} {t:Expr×Expr} (h:vTwo a=some t):a=[t.1,t.2]:=by
 match a,h with
 | [x,y],h=>cases Option.some.inj (show some (x,y)=some t from h); rfl
 | [],h=>exact Za h
 | [_],h=>exact Za h
 | _ :: _ :: _ :: _,h=>exact Za h
noncomputable def vDict0:Expr→Bool
 | .Dict [] [] _=>true
 | _=>false
theorem vDict0_inv {a:Expr} (h:vDict0 a=true):∃ p,a = .Dict [] [] p:=by
 unfold vDict0 at h
 split at h
 ·exact ⟨_,rfl⟩
 ·cases h
noncomputable def vOne:List Expr→Option Expr
 | [x]=>some x
 | _=>none
theorem Vbb {a:List Expr} {t:Expr} (h:vOne a=some t):a=[t]:=by
 match a,h with
 | [x],h=>cases Option.some.inj (show some x=some t from h); rfl
 | [],h=>exact Za h
 | _ :: _ :: _,h=>exact Za h
noncomputable def Zbc:Expr→Option (Expr×Expr)
 | .Dict [some k] [v] _=>some (k,v)
 | _=>none
theorem vDict1_inv {a:Expr} {t:Expr×Expr} (h:Zbc a=some t):∃ p,a = .Dict [some t.1] [t.2] p:=by
 unfold Zbc at h
 split at h
 ·cases Option.some.inj h; exact ⟨_,rfl⟩
 ·cases h
noncomputable def vComp:Expr→Option (Expr×Expr×Expr×List Expr×Scope)
 | .ListComp e [g] s _=>if g.is_async=0 then some (e,g.target,g.iter,g.ifs,s) else none
 | _=>none
theorem Var {a:Expr} {t:Expr×Expr×Expr×List Expr×Scope} (h:vComp a=some t):∃ p,a = .ListComp t.1 [⟨t.2.1,t.2.2.1,t.2.2.2.1,0⟩] t.2.2.2.2 p:=by
 cases a with
 | ListComp e gs s p =>
  match gs,h with
  | [⟨tg,it,ifs,k⟩],h =>
   have h:(if k=0 then some (e,tg,it,ifs,s) else none)=some t:=h
   by_cases q:k=0
   ·rw [if_pos q] at h; cases Option.some.inj h; exact ⟨p,by rw [q]⟩
   ·rw [if_neg q] at h; exact Za h
  | [],h=>exact Za h
  | _ :: _ :: _,h=>exact Za h
 | _=>exact Za h
noncomputable def mDsp (ks:List DKey) (as:Es) (a:Expr):Bool:=match ks,as,a with
 | [k],.cons (.cst (.int i)) .nil,.Dict [k'] [.Constant (.int j) _ _] _=>keyC k' k && i == j
 | _,_,_=>false
noncomputable def Va4:It→Bool
 | .rng as=>decide (Wz as≤2)
 | _=>false
mutual
noncomputable def mE (c:Ctx):E→Expr→Bool
 | .var i,a=>opt (Wa3 a) fun x=>c.at_ i x && c.vis x && !Zz x
 | .cst d,a=>opt (vConst a) fun k=>mC k d
 | .bin op l r,a=>opt (vBin a) fun t=>op == t.2.1 && mE c l t.1 && mE c r t.2.2
 | .neg l,a=>opt (vNeg a) fun t=>mE c l t
 | .not l,a=>opt (vNot a) fun t=>mE c l t
 | .cmp op l r,a=>opt (vCmp a) fun t=>op == t.2.1 && mE c l t.1 && mE c r t.2.2 && Xl t.2.2
 | .cmpX l r n,a=>opt (vCmp a) fun t=>(t.2.1 == (if n then CmpOp.NotEq else CmpOp.Eq)) && mE c l t.1 && mE c r t.2.2 && Xl t.2.2
 | .chain p q l m r,a=>opt (vCmp2 a) fun t=>p == t.2.1 && q == t.2.2.1 && mE c l t.1 && mE c m t.2.2.2.1 && mE c r t.2.2.2.2 && Xl t.2.2.2.2 && Xl t.2.2.2.1
 | .and x y,a=>opt (vAnd a) fun t=>mE c x t.1 && mE c y t.2
 | .or x y,a=>opt (vOr a) fun t=>mE c x t.1 && mE c y t.2
 | .call x _ as,a=>opt (Vx a) fun t=>x == t.1 && c.glb x && !Zz x && mEs c as t.2
 | .blt x as,a=>opt (Vx a) fun t=>c.calm && knownB.contains x && bname x == t.1 && Xf c t.1 && mEs c as t.2 && !t.2.isEmpty
 | .bltD x l r,a=>(opt (vCallK a) fun t=>c.calm && x == "max" && t.1 == Str.ofString "max" && Xf c t.1 && mE c l t.2.1 && notStar t.2.1 && (t.2.2.arg == some (Str.ofString "default")) && mE c r t.2.2.value) || (opt (Zbc a) fun t=>(x == "{}" || x == "{t}") && mE c l t.1 && mE c r t.2)
 | .isin l t,a=>opt (Vx a) fun q=>opt (vTwo q.2) fun w=>opt (Wa3 w.2) fun z=>(q.1 == Str.ofString "isinstance") && Xf c q.1 && ["int","bool","str","tuple","list","dict"].contains t && (z == Str.ofString t) && Xf c z && mE c l w.1 && notStar w.1
 | .meth m o as,a=>opt (vMeth a) fun t=>(if t.2.2.1.isEmpty then false else ["append","extend"].contains m) && t.2.1 == Str.ofString m && baseB t.1 && t.2.2.2 && mE c o t.1 && mEs c as t.2.2.1 && decide (t.2.2.1.length < 30)
 | .idx x y,a=>opt (vSub a) fun t=>mE c x t.1 && mE c y t.2 && Vg t.2
 | .slc _ x lo hi,a=>opt (vSlc a) fun t=>mE c x t.1 && mO c lo t.2.1 && mO c hi t.2.2
 | .tup as,a=>opt (vTup a) fun es=>mEs c as es && decide (es.length≤16777216)
 | .lst _ as,a=>opt (vLst a) fun es=>mEs c as es && decide (es.length≤16777216)
 | .dsp ks as,a=>mDsp ks as a
 | .comp _ n tt cap elt it cond,a=>opt (vComp a) fun t=>(c.calm || (Va4 it && !tt)) && opt (Wai tt t.2.1) fun xs=>opt (Zm c cap) fun cs=>n == xs.length && Xa8 c t.2.2.2.2 (xs ++ cs) cs && Xaq tt it && mI c it t.2.2.1 && mTg (c.in_ (xs ++ cs) t.2.2.2.2.names) (List.range n) tt t.2.1 && mE (c.in_ (xs ++ cs) t.2.2.2.2.names) elt t.1 && mEs (c.in_ (xs ++ cs) t.2.2.2.2.names) cond t.2.2.2.1 && decide (t.2.2.2.1.length≤1)
 | .frz x,a=>mE c x a
 | .dnew _,a=>vDict0 a
 | .lrng m x r,a=>opt (Vx a) fun t=>opt (vOne t.2) fun ra=>opt (Vx ra) fun u=>opt (vOne u.2) fun z=>c.calm && (t.1 == Str.ofString (lrN m)) && Xf c t.1 && (u.1 == Str.ofString (lrM r)) && Xf c u.1 && notStar ra && mE c x z && notStar z
 | .cat _ l r,a=>opt (vBin a) fun t=>t.2.1 == .Add && mE c l t.1 && mE c r t.2.2
noncomputable def mEs (c:Ctx):Es→List Expr→Bool
 | .nil,as=>as.isEmpty
 | .cons e es,as=>match as with | []=>false | a :: as=>mE c e a && notStar a && mEs c es as
noncomputable def mO (c:Ctx):Es→Option Expr→Bool
 | .nil,a=>a.isNone
 | .cons e es,a=>match a,es with | some a,.nil=>mE c e a | _,_=>false
noncomputable def mI (c:Ctx):It→Expr→Bool
 | .seq e,a=>mE c e a && Xl a
 | .rng as,a=>opt (Vx a) fun t=>(t.1 == Str.ofString "range") && Xf c t.1 && mEs c as t.2 && (t.2.length == 1 || t.2.length == 2)
end
noncomputable def V8:Expr→Bool
 | .Tuple ..=>false
 | .List ..=>false
 | _=>true
noncomputable def isLocal (c:Ctx) (x:Str):Bool:=c.names.lookup x == some .local
noncomputable def Za7:E→Bool
 | .comp ..=>true
 | _=>false
noncomputable def uAsg:Stmt→Option (Expr×Expr)
 | .Assign [t] v _=>some (t,v)
 | _=>none
theorem V4 {a:Stmt} {t:Expr×Expr} (h:uAsg a=some t):∃ p,a = .Assign [t.1] t.2 p:=by
 cases a with
 | Assign ts v p =>
  match ts,h with
  | [x],h=>cases Option.some.inj (show some (x,v)=some t from h); exact ⟨p,rfl⟩
  | [],h=>exact Za h
  | _ :: _ :: _,h=>exact Za h
 | _=>exact Za h
noncomputable def uAug:Stmt→Option (Expr×Operator×Expr)
 | .AugAssign t o v _=>some (t,o,v)
 | _=>none
theorem uAug_inv {a:Stmt} {t:Expr×Operator×Expr} (h:uAug a=some t):∃ p,a = .AugAssign t.1 t.2.1 t.2.2 p:=by
 cases a with
 | AugAssign x o v p=>cases Option.some.inj (show some (x,o,v)=some t from h); exact ⟨p,rfl⟩
 | _=>exact Za h
noncomputable def uExp:Stmt→Option Expr
 | .Expr v _=>some v
 | _=>none
theorem uExp_inv {a:Stmt} {t:Expr} (h:uExp a=some t):∃ p,a = .Expr t p:=by
 cases a with
 | Expr v p=>cases Option.some.inj (show some v=some t from h); exact ⟨p,rfl⟩
 | _=>exact Za h
noncomputable def uRet:Stmt→Option (Option Expr)
 | .Return v _=>some v
 | _=>none
theorem uRet_inv {a:Stmt} {t:Option Expr} (h:uRet a=some t):∃ p,a = .Return t p:=by
 cases a with
 | Return v p=>cases Option.some.inj (show some v=some t from h); exact ⟨p,rfl⟩
 | _=>exact Za h
noncomputable def uIf:Stmt→Option (Expr×List Stmt×List Stmt)
 | .If t x y _=>some (t,x,y)
 | _=>none
theorem uIf_inv {a:Stmt} {t:Expr×List Stmt×List Stmt} (h:uIf a=some t):∃ p,a = .If t.1 t.2.1 t.2.2 p:=by
 cases a with
 | If u x y p=>cases Option.some.inj (show some (u,x,y)=some t from h); exact ⟨p,rfl⟩
 | _=>exact Za h
noncomputable def uFor:Stmt→Option (Expr×Expr×List Stmt)
 | .For t i b [] _=>some (t,i,b)
 | _=>none
theorem uFor_inv {a:Stmt} {t:Expr×Expr×List Stmt} (h:uFor a=some t):∃ p,a = .For t.1 t.2.1 t.2.2 [] p:=by
 cases a with
 | For u i b e p =>
  cases e with
  | nil=>cases Option.some.inj (show some (u,i,b)=some t from h); exact ⟨p,rfl⟩
  | cons _ _=>exact Za h
 | _=>exact Za h
noncomputable def uWhl:Stmt→Option (Expr×List Stmt)
 | .While t b [] _=>some (t,b)
 | _=>none
theorem uWhl_inv {a:Stmt} {t:Expr×List Stmt} (h:uWhl a=some t):∃ p,a = .While t.1 t.2 [] p:=by
 cases a with
 | While u b e p =>
  cases e with
  | nil=>cases Option.some.inj (show some (u,b)=some t from h); exact ⟨p,rfl⟩
  | cons _ _=>exact Za h
 | _=>exact Za h
noncomputable def uBrk:Stmt→Option Unit
 | .Break _=>some ()
 | _=>none
theorem uBrk_inv {a:Stmt} {t:Unit} (h:uBrk a=some t):∃ p,a = .Break p:=by
 cases a with
 | Break p=>exact ⟨p,rfl⟩
 | _=>exact Za h
mutual
noncomputable def mS (c:Ctx):S→Stmt→Bool
 | .set i e,a=>opt (uAsg a) fun t=>opt (Wa3 t.1) fun x=>c.at_ i x && c.loc x && mE c e t.2 && (Yh t.2 || Za7 e)
 | .setT is e,a=>opt (uAsg a) fun t=>opt (vTup t.1) fun ts=>c.calm && Wl c is ts && mE c e t.2 && Yh t.2 && V8 t.2
 | .dput o i e,a=>opt (uAsg a) fun t=>opt (vSub t.1) fun u=>c.calm && mE c o u.1 && mE c i u.2 && Vg u.2 && mE c e t.2 && Yh t.2
 | .augIx op o i e,a=>opt (uAug a) fun t=>opt (vSub t.1) fun u=>op == t.2.1 && (op == .Add || op == .Sub) && mE c o u.1 && mE c i u.2 && Vg u.2 && mE c e t.2.2
 | .setIx o i e,a=>opt (uAsg a) fun t=>opt (vSub t.1) fun u=>mE c o u.1 && mE c i u.2 && Vg u.2 && mE c e t.2 && Yh t.2
 | .exp e,a=>opt (uExp a) fun v=>mE c e v && Yh v
 | .ret e,a=>opt (uRet a) fun o=>opt o fun v=>mE c e v
 | .ite t x y,a=>opt (uIf a) fun u=>mE c t u.1 && mSs c x u.2.1 && mSs c y u.2.2
 | .for_ is tt it b,a=>opt (uFor a) fun u=>c.calm && mTg c is tt u.1 && mI c it u.2.1 && mSs c b u.2.2 && Xl u.2.1 && Xaq tt it
 | .whl t b,a=>opt (uWhl a) fun u=>mE c t u.1 && mSs c b u.2
 | .brk,a=>opt (uBrk a) fun _=>true
 | .nev,_=>true
noncomputable def mSs (c:Ctx):Ss→List Stmt→Bool
 | .nil,as=>as.isEmpty
 | .cons s r,as=>match as with | []=>false | a :: as=>mS c s a && mSs c r as
end
inductive Rf where
 | fn (x:Str) | mth (c m:String) | mk (c:String) | fld (c f:String)
 | fnM (x:Str) | rsi (c:String) (ks:List String) | efl (f:String) (tab:List String)
 | fnX (x:Str) (sp:DSpX) | mthX (c m:String) (sp:DSpX) | mkX (c:String) (sp:DSpX) | rse (c:String) | hdl (P:String) (tab:List String) | isx (tt:Bool) (ts:List String) (tab:List (String×Bool))
def spN:DSp:=fun _ _ _=>False
mutual
noncomputable def okE (P:Rf→DSp→Prop) (G:Str→D→Prop):E→Prop
 | .bin _ a b=>okE P G a∧okE P G b
 | .neg a=>okE P G a
 | .not a=>okE P G a
 | .cmp _ a b=>okE P G a∧okE P G b
 | .cmpX a b _=>okE P G a∧okE P G b
 | .chain _ _ a b c=>okE P G a∧okE P G b∧okE P G c
 | .and a b=>okE P G a∧okE P G b
 | .or a b=>okE P G a∧okE P G b
 | .call x sp as=>P (.fn x) sp∧okEs P G as
 | .blt _ as=>okEs P G as
 | .bltD _ a b=>okE P G a∧okE P G b
 | .isin a _=>okE P G a
 | .meth _ o as=>okE P G o∧okEs P G as
 | .idx a b=>okE P G a∧okE P G b
 | .slc _ a lo hi=>okE P G a∧okEs P G lo∧okEs P G hi
 | .tup as=>okEs P G as
 | .lst _ as=>okEs P G as
 | .dsp _ as=>okEs P G as
 | .comp _ _ _ _ elt it cond=>okE P G elt∧okI P G it∧okEs P G cond
 | .frz a=>okE P G a
 | .lrng _ a _=>okE P G a
 | .cat _ a b=>okE P G a∧okE P G b
 | _=>True
noncomputable def okEs (P:Rf→DSp→Prop) (G:Str→D→Prop):Es→Prop
 | .nil=>True
 | .cons e es=>okE P G e∧okEs P G es
noncomputable def okI (P:Rf→DSp→Prop) (G:Str→D→Prop):It→Prop
 | .seq e=>okE P G e
 | .rng as=>okEs P G as
end
mutual
noncomputable def okS (P:Rf→DSp→Prop) (G:Str→D→Prop):S→Prop
 | .set _ e=>okE P G e
 | .setT _ e=>okE P G e
 | .dput o i e=>okE P G o∧okE P G i∧okE P G e
 | .augIx _ o i e=>okE P G o∧okE P G i∧okE P G e
 | .setIx o i e=>okE P G o∧okE P G i∧okE P G e
 | .exp e=>okE P G e
 | .ret e=>okE P G e
 | .ite c a b=>okE P G c∧okSs P G a∧okSs P G b
 | .for_ _ _ it b=>okI P G it∧okSs P G b
 | .whl c b=>okE P G c∧okSs P G b
 | _=>True
noncomputable def okSs (P:Rf→DSp→Prop) (G:Str→D→Prop):Ss→Prop
 | .nil=>True
 | .cons s r=>okS P G s∧okSs P G r
end
end DW
end
section
set_option autoImplicit false
namespace DW
open PySem
section
variable {P P':Rf→DSp→Prop} {G G':Str→D→Prop} (hp:∀ x sp,P x sp→P' x sp) (hg:∀ x d,G x d→G' x d)
include hp hg
mutual
theorem okE.mono:∀ e:E,okE P G e→okE P' G' e
 | .var _,h=>trivial
 | .cst _,h=>trivial
 | .bin _ a b,h=>⟨okE.mono a h.1,okE.mono b h.2⟩
 | .neg a,h=>okE.mono a h
 | .not a,h=>okE.mono a h
 | .cmp _ a b,h=>⟨okE.mono a h.1,okE.mono b h.2⟩
 | .cmpX a b _,h=>⟨okE.mono a h.1,okE.mono b h.2⟩
 | .chain _ _ a b c,h=>⟨okE.mono a h.1,okE.mono b h.2.1,okE.mono c h.2.2⟩
 | .and a b,h=>⟨okE.mono a h.1,okE.mono b h.2⟩
 | .or a b,h=>⟨okE.mono a h.1,okE.mono b h.2⟩
 | .call x sp as,h=>⟨hp (.fn x) sp h.1,okEs.mono as h.2⟩
 | .blt _ as,h=>okEs.mono as h
 | .bltD _ a b,h=>⟨okE.mono a h.1,okE.mono b h.2⟩
 | .isin a _,h=>okE.mono a h
 | .meth _ o as,h=>⟨okE.mono o h.1,okEs.mono as h.2⟩
 | .idx a b,h=>⟨okE.mono a h.1,okE.mono b h.2⟩
 | .slc _ a lo hi,h=>⟨okE.mono a h.1,okEs.mono lo h.2.1,okEs.mono hi h.2.2⟩
 | .tup as,h=>okEs.mono as h
 | .lst _ as,h=>okEs.mono as h
 | .dsp _ as,h=>okEs.mono as h
 | .comp _ _ _ _ elt it cond,h=>⟨okE.mono elt h.1,okI.mono it h.2.1,okEs.mono cond h.2.2⟩
 | .frz a,h=>okE.mono a h
 | .lrng _ a _,h=>okE.mono a h
 | .dnew _,h=>trivial
 | .cat _ a b,h=>⟨okE.mono a h.1,okE.mono b h.2⟩
theorem okEs.mono:∀ e:Es,okEs P G e→okEs P' G' e
 | .nil,_=>trivial
 | .cons e es,h=>⟨okE.mono e h.1,okEs.mono es h.2⟩
theorem okI.mono:∀ e:It,okI P G e→okI P' G' e
 | .seq e,h=>okE.mono e h
 | .rng as,h=>okEs.mono as h
end
end
mutual
theorem okS.mono:∀ (s:S) {P P':Rf→DSp→Prop} {G G':Str→D→Prop} (hp:∀ x sp,P x sp→P' x sp) (hg:∀ x d,G x d→G' x d),okS P G s→okS P' G' s
 | .set _ e,_,_,_,_,hp,hg,h=>okE.mono hp hg e h
 | .setT _ e,_,_,_,_,hp,hg,h=>okE.mono hp hg e h
 | .dput o i e,_,_,_,_,hp,hg,h=>⟨okE.mono hp hg o h.1,okE.mono hp hg i h.2.1,okE.mono hp hg e h.2.2⟩
 | .augIx _ o i e,_,_,_,_,hp,hg,h=>⟨okE.mono hp hg o h.1,okE.mono hp hg i h.2.1,okE.mono hp hg e h.2.2⟩
 | .setIx o i e,_,_,_,_,hp,hg,h=>⟨okE.mono hp hg o h.1,okE.mono hp hg i h.2.1,okE.mono hp hg e h.2.2⟩
 | .exp e,_,_,_,_,hp,hg,h=>okE.mono hp hg e h
 | .ret e,_,_,_,_,hp,hg,h=>okE.mono hp hg e h
 | .ite c a b,_,_,_,_,hp,hg,h=>⟨okE.mono hp hg c h.1,okSs.mono a hp hg h.2.1,okSs.mono b hp hg h.2.2⟩
 | .for_ _ _ it b,_,_,_,_,hp,hg,h=>⟨okI.mono hp hg it h.1,okSs.mono b hp hg h.2⟩
 | .whl c b,_,_,_,_,hp,hg,h=>⟨okE.mono hp hg c h.1,okSs.mono b hp hg h.2⟩
 | .brk,_,_,_,_,_,_,_=>trivial
 | .nev,_,_,_,_,_,_,_=>trivial
theorem okSs.mono:∀ (s:Ss) {P P':Rf→DSp→Prop} {G G':Str→D→Prop} (hp:∀ x sp,P x sp→P' x sp) (hg:∀ x d,G x d→G' x d),okSs P G s→okSs P' G' s
 | .nil,_,_,_,_,_,_,_=>trivial
 | .cons s r,_,_,_,_,hp,hg,h=>⟨okS.mono s hp hg h.1,okSs.mono r hp hg h.2⟩
end
end DW
end
section
set_option autoImplicit false
set_option maxHeartbeats 2000000
namespace DW
open PySem PySem.Spec PyProof.Rows L2
section
variable {X:Cx} {pos:Pos}
end
end DW
end
section
set_option autoImplicit false
namespace DW
open PySem PySem.Spec PyProof.Rows L2
mutual
noncomputable def pd:D→PyData
 | .non=>.none
 | .bl b=>.bool b
 | .int i=>.int i
 | .str x=>.str ⟨x.toArray⟩
 | .tup ds=>.tuple (pds ds)
 | .lst ds=>.list (pds ds)
 | _=>.none
noncomputable def pds:List D→List PyData
 | []=>[]
 | d :: ds=>pd d :: pds ds
end
mutual
theorem Wf:∀ (n:Nat) (d:D),flat n d=true→(pd d).canLay0=true
 | _,.non,_=>by simp [pd,PyData.canLay0]
 | _,.bl _,_=>by simp [pd,PyData.canLay0]
 | _,.int _,_=>by simp [pd,PyData.canLay0]
 | _,.str x,h=>by
  simp only [pd,PyData.canLay0,PyData.strOk]
  simpa [flat] using h
 | n + 1,.tup ds,h=>by simp only [pd,PyData.canLay0]; exact Z0 n ds (by simpa [flat] using h)
 | n + 1,.lst ds,h=>by simp only [pd,PyData.canLay0]; exact Z0 n ds (by simpa [flat] using h)
 | 0,.tup _,h=>by simp [flat] at h
 | 0,.lst _,h=>by simp [flat] at h
 | _,.ro _,h=>by simp [flat] at h
 | _,.loc _,h=>by simp [flat] at h
 | _,.dic _ _,h=>by simp [flat] at h
 | _,.fdc _ _,h=>by simp [flat] at h
theorem Z0:∀ (n:Nat) (ds:List D),flats n ds=true→PyData.canLayAll0 (pds ds)=true
 | _,[],_=>by simp [pds,PyData.canLayAll0]
 | n,d :: ds,h=>by
  have h':flat n d=true∧flats n ds=true:=by simpa [flats] using h
  simp only [pds,PyData.canLayAll0,Wf n d h'.1,Z0 n ds h'.2,Bool.and_self]
end
mutual
theorem Ww:∀ (n:Nat) (d:D),flat n d=true→(pd d).depth≤n
 | _,.non,_=>by simp [pd,PyData.depth]
 | _,.bl _,_=>by simp [pd,PyData.depth]
 | _,.int _,_=>by simp [pd,PyData.depth]
 | _,.str x,h=>by simp [pd,PyData.depth]
 | n + 1,.tup ds,h=>by simp only [pd,PyData.depth]; have:=Zac n ds (by simpa [flat] using h); omega
 | n + 1,.lst ds,h=>by simp only [pd,PyData.depth]; have:=Zac n ds (by simpa [flat] using h); omega
 | 0,.tup _,h=>by simp [flat] at h
 | 0,.lst _,h=>by simp [flat] at h
 | _,.ro _,h=>by simp [flat] at h
 | _,.loc _,h=>by simp [flat] at h
 | _,.dic _ _,h=>by simp [flat] at h
 | _,.fdc _ _,h=>by simp [flat] at h
theorem Zac:∀ (n:Nat) (ds:List D),flats n ds=true→PyData.depthAll (pds ds)≤n
 | _,[],_=>by simp [pds,PyData.depthAll]
 | n,d :: ds,h=>by
  have h':flat n d=true∧flats n ds=true:=by simpa [flats] using h
  simp only [pds,PyData.depthAll]
  have h1:=Ww n d h'.1
  have h2:=Zac n ds h'.2
  omega
end
theorem Wbe (x y:List Nat):((⟨x.toArray⟩:Str) == ⟨y.toArray⟩)=(x == y):=by
 by_cases h:x=y
 ·subst h; simp
 ·have h1:¬ (⟨x.toArray⟩:Str)=⟨y.toArray⟩:=fun e=>h (by injection e with e; simpa using congrArg Array.toList e)
  rw [beq_eq_false_iff_ne.mpr h1,beq_eq_false_iff_ne.mpr h]
mutual
theorem W2:∀ (n m:Nat) (d e:D),flat n d=true→flat m e=true→PyData.eqv (pd d) (pd e)=eqD d e
 | _,_,.non,e,_,he=>by cases e <;> simp_all [pd,PyData.eqv,eqD,flat]
 | _,_,.bl a,e,_,he=>by cases e <;> simp_all [pd,PyData.eqv,eqD,flat,b2i]
 | _,_,.int i,e,_,he=>by cases e <;> simp_all [pd,PyData.eqv,eqD,flat,b2i]
 | _,_,.str x,e,_,he=>by cases e <;> simp_all [pd,PyData.eqv,eqD,flat,Wbe]
 | n + 1,m,.tup ds,e,hd,he=>by
  cases e with
  | tup es =>
   cases m with
   | zero=>simp [flat] at he
   | succ m =>
    simp only [pd,PyData.eqv,eqD]
    exact Va7 n m ds es (by simpa [flat] using hd) (by simpa [flat] using he)
  | _=>simp_all [pd,PyData.eqv,eqD,flat]
 | n + 1,m,.lst ds,e,hd,he=>by
  cases e with
  | lst es =>
   cases m with
   | zero=>simp [flat] at he
   | succ m =>
    simp only [pd,PyData.eqv,eqD]
    exact Va7 n m ds es (by simpa [flat] using hd) (by simpa [flat] using he)
  | _=>simp_all [pd,PyData.eqv,eqD,flat]
 | 0,_,.tup _,_,h,_=>by simp [flat] at h
 | 0,_,.lst _,_,h,_=>by simp [flat] at h
 | _,_,.ro _,_,h,_=>by simp [flat] at h
 | _,_,.loc _,_,h,_=>by simp [flat] at h
 | _,_,.dic _ _,_,h,_=>by simp [flat] at h
 | _,_,.fdc _ _,_,h,_=>by simp [flat] at h
theorem Va7:∀ (n m:Nat) (ds es:List D),flats n ds=true→flats m es=true→PyData.eqvAll (pds ds) (pds es)=eqDs ds es
 | _,_,[],es,_,_=>by cases es <;> simp [pds,PyData.eqvAll,eqDs]
 | n,m,d :: ds,es,hd,he=>by
  cases es with
  | nil=>simp [pds,PyData.eqvAll,eqDs]
  | cons e es =>
   have hd':flat n d=true∧flats n ds=true:=by simpa [flats] using hd
   have he':flat m e=true∧flats m es=true:=by simpa [flats] using he
   simp only [pds,PyData.eqvAll,eqDs]
   rw [W2 n m d e hd'.1 he'.1,Va7 n m ds es hd'.2 he'.2]
end
section
variable {X:Cx} {pins:List (Addr×Obj)} {σ:L2.St} {H:Hp} {s:Shared} {θ:List Addr} {μ:Mem}
mutual
theorem Zf (I:Inv X pins σ H s):∀ (n:Nat) (d:D) (v:V) (u:Value),Rp X.K H θ μ d v→RelV v u→flat n d=true→∃ as,Reads s.heap u (pd d) as
 | _,.non,v,u,r,ru,_=>by cases Xz r; cases ru; exact ⟨_,by unfold pd; exact .none⟩
 | _,.bl b,v,u,r,ru,_=>by cases Zi r; cases ru; exact ⟨_,by unfold pd; exact .bool b⟩
 | _,.int i,v,u,r,ru,_=>by cases Zb r; obtain ⟨t,rfl⟩:=ru; exact ⟨_,by unfold pd; exact .int i t⟩
 | _,.str x,v,u,r,ru,_=>by cases (Wd r).1; obtain ⟨t,rfl⟩:=ru; exact ⟨_,by unfold pd; exact .str _ t⟩
 | n + 1,.tup ds,v,u,r,ru,h=>by
  obtain ⟨a,xs,rfl,hH,_,rs⟩:=We r
  cases ru
  obtain ⟨its,rv,⟨o,ho,hc,k,hd⟩,_⟩:=I.tuple (SqT.of hH)
  obtain ⟨as,ra⟩:=Yt I n ds xs its rs rv (by simpa [flat] using h)
  exact ⟨as,by unfold pd; exact .tuple ho hc hd (by simpa using ra)⟩
 | n + 1,.lst ds,v,u,r,ru,h=>by
  obtain ⟨a,xs,rfl,hH,_,rs⟩:=Xh r
  cases ru
  obtain ⟨its,rv,⟨o,k,ho,hc,_,hd⟩,_⟩:=I.list (SqL.of hH)
  obtain ⟨as,ra⟩:=Yt I n ds xs its rs rv (by simpa [flat] using h)
  exact ⟨a :: as,by unfold pd; exact .list ho hc hd (by simpa using ra)⟩
 | 0,.tup _,_,_,_,_,h=>by simp [flat] at h
 | 0,.lst _,_,_,_,_,h=>by simp [flat] at h
 | _,.ro _,_,_,_,_,h=>by simp [flat] at h
 | _,.loc _,_,_,_,_,h=>by simp [flat] at h
 | _,.dic _ _,_,_,_,_,h=>by simp [flat] at h
 | _,.fdc _ _,_,_,_,_,h=>by simp [flat] at h
theorem Yt (I:Inv X pins σ H s):∀ (n:Nat) (ds:List D) (vs:List V) (us:List Value),Rps X.K H θ μ ds vs→Vals vs us→flats n ds=true→∃ as,ReadsAll s.heap us (pds ds) as
 | _,[],vs,us,r,rv,_=>by cases r.nil_inv; cases rv; exact ⟨_,by unfold pds; exact .nil⟩
 | n,d :: ds,vs,us,r,rv,h=>by
  obtain ⟨v,vr,rfl,h1,h2⟩:=r.cons_inv
  have h':flat n d=true∧flats n ds=true:=by simpa [flats] using h
  cases rv with
  | cons ru rr =>
   obtain ⟨as,ra⟩:=Zf I n d v _ h1 ru h'.1
   obtain ⟨bs,rb⟩:=Yt I n ds vr _ h2 rr h'.2
   exact ⟨as ++ bs,by unfold pds; exact .cons ra rb⟩
end
end
theorem Wal:∀ (x y:List Nat),ltCs x y=decide (x < y)
 | [],[]=>by simp [ltCs]
 | [],_ :: _=>by simp [ltCs]
 | _ :: _,[]=>by simp [ltCs]
 | a :: x,b :: y=>by
  unfold ltCs
  by_cases h:a=b
  ·subst h
   rw [if_pos rfl,Wal x y]
   simp [List.cons_lt_cons_iff]
  ·rw [if_neg h]
   simp [List.cons_lt_cons_iff,h]
noncomputable def SV (u:Value) (d:D):Prop:=(∃ i t,u = .int i t∧d = .int i)∨∃ x t,u = .str ⟨x.toArray⟩ t∧d = .str x
noncomputable abbrev SVs:List Value→List D→Prop:=Paired SV
theorem sv_eq {A:Around} {s:Shared} {u v:Value} {d e:D} (h:SV u d) (k:SV v e):SeqAt.EqAt A s u v (eqD d e):=by
 rcases h with ⟨i,t,rfl,rfl⟩ | ⟨x,t,rfl,rfl⟩
 ·rcases k with ⟨j,t',rfl,rfl⟩ | ⟨y,t',rfl,rfl⟩
  ·simp only [eqD]; exact SeqAt.EqAt.int_int i t j t'
  ·simp only [eqD]; exact SeqAt.EqAt.int_str i t _ t'
 ·rcases k with ⟨j,t',rfl,rfl⟩ | ⟨y,t',rfl,rfl⟩
  ·simp only [eqD]; exact SeqAt.EqAt.str_int _ t j t'
  ·simp only [eqD]; rw [← Wbe]; exact SeqAt.EqAt.str_str _ t _ t'
theorem sv_lt {A:Around} {s:Shared} {u v:Value} {d e:D} {b:Bool} (h:SV u d) (k:SV v e) (hb:ltD d e=some b) (prog:Program) (w:World) (E:Value→Shared→Prop) (Q:Value→Shared→Prop) (q:Q (.bool b) s) :
  wpAny (model prog w) A (richCompare .Lt u v) Q E s:=by
 rcases h with ⟨i,t,rfl,rfl⟩ | ⟨x,t,rfl,rfl⟩
 ·rcases k with ⟨j,t',rfl,rfl⟩ | ⟨y,t',rfl,rfl⟩
  ·simp only [ltD,Option.some.injEq] at hb
   subst hb
   exact (PyProof.Rows.lt_int q:wpAny (model prog w) A (compareOp .Lt (.int i t) (.int j t')) Q E s)
  ·simp [ltD] at hb
 ·rcases k with ⟨j,t',rfl,rfl⟩ | ⟨y,t',rfl,rfl⟩
  ·simp [ltD] at hb
  ·simp only [ltD,Option.some.injEq] at hb
   subst hb
   rw [Wal] at q
   exact (PySem.P.lt_str (by simpa using q):wpAny (model prog w) A (compareOp .Lt (.str ⟨x.toArray⟩ t) (.str ⟨y.toArray⟩ t')) Q E s)
section
open PySem.SeqAt
open PySem.AutoSeq1 (wpAny_loadPart')
open PySem.MeetsSeq PySem.MeetsSeq2 PySem.MeetsSeq3
theorem ltDs_cons (d e:D) (ds es:List D):ltDs (d :: ds) (e :: es)=if eqD d e then ltDs ds es else ltD d e:=by rw [ltDs]
theorem Va3 (l b:Addr) (items items2:Array Value) (n n2:Nat) (dd dd2:Option Addr) (sl sl2:Array (Option Value)) (ns ms:List D) (r:Bool) (hi:SVs items.toList ns) (hj:SVs items2.toList ms) (hr:ltDs ns ms=some r) :
  Meets (Builtin.«tuple.__lt__» ⟨[.ref l,.ref b],[]⟩)
   (fun _ R s=>s.heap.get? l=some { cls:=.type "tuple",dict:=dd,data:=.seq items n,slots:=sl }∧s.heap.get? b=some { cls:=.type "tuple",dict:=dd2,data:=.seq items2 n2,slots:=sl2 } ∧
    R (.ok (.ret (.bool r))) s) :=
 .of_wp fun prog w A R s h=>by
  obtain ⟨hp,g,d,tk,os⟩:=s; obtain ⟨hl,hb,h⟩:=h
  have f2:=AutoSeq1.sub_tuple_tuple
  have z1:items.size=ns.length:=by rw [← Paired.length hi]; simp
  have z2:items2.size=ms.length:=by rw [← Paired.length hj]; simp
  wp_walk using wpAny_loadPart' hl,wpAny_loadPart' hb,wpAny_forIn_list _ (fun rest b s'=>b.1=none∧s'=⟨hp,g,d,tk,os⟩∧∃ (vs ws:List Value) (ns' ms':List D),rest=vs.zip ws ∧
   SVs vs ns'∧SVs ws ms'∧ns'.length + items2.size=ms'.length + items.size∧ltDs ns' ms'=some r) _
  case turn =>
   rintro ⟨y,x⟩ rest b s' ⟨hb',rfl,vs,ws,ns',ms',hz,hvi,hwi,hlen,hR⟩
   cases hvi with
   | nil=>rw [List.zip_nil_left] at hz; cases hz
   | @cons u du vs' ns'' hu hvi' =>
    cases hwi with
    | nil=>rw [List.zip_nil_right] at hz; cases hz
    | @cons v dv ws' ms'' hv hwi' =>
     rw [List.zip_cons_cons] at hz
     injection hz with hyx hrest
     injection hyx with hy hx
     subst hy hx
     rw [ltDs_cons] at hR
     simp only [List.length_cons] at hlen
     have he:=sv_eq (A:=A.in1) (s:=⟨hp,g,d,tk,os⟩) hu hv
     refine wpAny_bind (he prog w _ _ ?_)
     cases e:eqD du dv with
     | true =>
      rw [e,if_pos rfl] at hR
      wp_walk
      exact ⟨rfl,rfl,_,_,_,_,hrest,hvi',hwi',by omega,hR⟩
     | false =>
      rw [e,if_neg Bool.false_ne_true] at hR
      have hri:=sv_lt (A:=A.in1) (s:=⟨hp,g,d,tk,os⟩) hu hv hR prog w
      wp_walk using hri
      exact ⟨_,rfl,by simpa using h⟩
  case fin =>
   rintro ⟨b1,b2⟩ s' ⟨hb',rfl,vs,ws,ns',ms',hz,hvi,hwi,hlen,hR⟩
   simp only at hb'
   subst hb'
   have hv:r=decide (items.size < items2.size):=by
    cases hvi with
    | nil =>
     cases hwi with
     | nil =>
      simp only [List.length_nil] at hlen
      simp [ltDs] at hR
      rw [hR]
      exact (decide_eq_false (by omega)).symm
     | cons hu hw =>
      simp only [List.length_nil,List.length_cons] at hlen
      simp [ltDs] at hR
      rw [hR]
      exact (decide_eq_true (by omega)).symm
    | cons hu hv =>
     cases hwi with
     | nil =>
      simp only [List.length_nil,List.length_cons] at hlen
      simp [ltDs] at hR
      rw [hR]
      exact (decide_eq_false (by omega)).symm
     | cons hu' hw =>
      rw [List.zip_cons_cons] at hz
      cases hz
   rw [hv] at h
   wp_walk
   exact ⟨_,rfl,by simpa [Builtin.Tuple.tupleCompareSizes] using h⟩
  case h =>
   exact ⟨rfl,rfl,items.toList,items2.toList,ns,ms,rfl,hi,hj,by omega,hr⟩
end
theorem lt_tupSV {prog:Program} {w:World} {A:Around} {E:Value→Shared→Prop} {s:Shared} {l b:Addr} {items items2:Array Value} {ns ms:List D} {r:Bool} {Q:Value→Shared→Prop} (hl:IsTup s.heap l items) (hb:IsTup s.heap b items2) (hi:SVs items.toList ns) (hj:SVs items2.toList ms)
  (hr:ltDs ns ms=some r) (hu:A.units < cLine) (h:Q (.bool r) s):wpAny (model prog w) A (compareOp .Lt (.ref l) (.ref b)) Q E s:=by
 obtain ⟨⟨cls,dd,data,sl⟩,ho,hc,n,hd⟩:=id hl
 obtain ⟨⟨cls2,dd2,data2,sl2⟩,ho2,hc2,n2,hd2⟩:=id hb
 simp only at hc hd hc2 hd2
 subst hc hd hc2 hd2
 exact richCompare_meets_room (op:=.Lt) ⟨_,ho,rfl⟩ ⟨_,ho2,rfl⟩ PySem.F.slot_tuple_lt PySem.F.entry_tuple_lt (PySem.F.args_tuple_lt_2 _ _) (Va3 l b items items2 n n2 dd dd2 sl sl2 ns ms r hi hj hr)
  ⟨ho,ho2,show Value.bool r≠Value.notImplemented∧Q (.bool r) s from ⟨(fun x=>nomatch x),h⟩⟩ hu
end DW
end
section
set_option autoImplicit false
namespace DW
open PySem PySem.Spec PyProof.Rows L2
theorem Yaa {a b:DKey} (h:keyOf a=keyOf b):a=b:=by
 cases a with
 | inl i=>cases b with
  | inl j=>simp only [keyOf,Sum.inl.injEq] at h; rw [h]
  | inr y=>cases h
 | inr x=>cases b with
  | inl j=>cases h
  | inr y =>
   simp only [keyOf,Sum.inr.injEq,Str.mk.injEq] at h
   have:x=y:=by simpa using congrArg Array.toList h
   rw [this]
theorem Vaf {a b:List DKey} (h:a.map keyOf=b.map keyOf):a=b:=List.map_inj_right (fun _ _=>Yaa) |>.mp h
section
variable {κ κ':Type} [DecidableEq κ] [DecidableEq κ']
theorem Zam (f:κ→κ') (inj:∀ a b,f a=f b→a=b) {ks:List κ} {kvs:List (κ'×V)} {k:κ} (h1:kvs.map (·.1)=ks.map f):(kvs.any fun kv=>decide (kv.1=f k))=true↔k∈ks:=by
 have e:(kvs.any fun kv=>decide (kv.1=f k))=(kvs.map (·.1)).any fun q=>decide (q=f k):=by rw [List.any_map]; rfl
 rw [e,h1,List.any_eq_true]
 constructor
 ·rintro ⟨q,hq,e⟩
  obtain ⟨k',hk,rfl⟩:=List.mem_map.mp hq
  have:=inj _ _ (of_decide_eq_true e)
  subst this
  exact hk
 ·intro hk
  exact ⟨f k,List.mem_map.mpr ⟨k,hk,rfl⟩,by simp⟩
end
section
variable {K:PySem.W.Frag} {H:Hp} {θ:List Addr} {μ:Mem}
theorem Yam {d:D} {k:DKey} {v:V} (h:keyD d=some k) (r:Rp K H θ μ d v):v=kV (keyOf k):=by
 cases d with
 | int i=>simp only [keyD,Option.some.injEq] at h; subst h; exact Zb r
 | str x=>simp only [keyD,Option.some.injEq] at h; subst h; exact (Wd r).1
 | _=>simp [keyD] at h
theorem V5:∀ {ds:List D} {ks:List DKey} {vs:List V},Zad ds=some ks→Rps K H θ μ ds vs→vs=(ks.map keyOf).map kV
 | [],ks,vs,h,r=>by simp only [Zad,Option.some.injEq] at h; subst h; rw [r.nil_inv]; rfl
 | d :: ds,ks,vs,h,r=>by
  obtain ⟨v,vr,rfl,r1,r2⟩:=r.cons_inv
  simp only [Zad] at h
  split at h
  ·rename_i k hk
   cases e:Zad ds with
   | none=>rw [e] at h; cases h
   | some ks' =>
    rw [e] at h
    simp only [Option.map_some,Option.some.injEq] at h
    subst h
    rw [List.map_cons,List.map_cons,Yam hk r1,V5 e r2]
  ·cases h
theorem in_dict {neg:Bool} {d e:D} {x y:V} {Qd:QD} (wk:WOk K H θ μ) (rd:Rp K H θ μ d x) (re:Rp K H θ μ e y) (h:wInD neg d e μ Qd):∃ a o,y = .ref a∧DGet H a x o∧Qd (.bl (neg != o.isSome)) μ:=by
 unfold wInD at h
 split at h
 ·rename_i n
  obtain ⟨a,rfl,ha⟩:=Zc re
  split at h
  ·rename_i ks ds hn
   obtain ⟨kvs,e1,e2,e3⟩:=wk.cell n _ a hn ha
   split at h
   ·rename_i k hk
    refine ⟨a,valV kvs (keyOf k),rfl,by rw [Yam hk rd]; exact DGet.k e1,?_⟩
    have z:(valV kvs (keyOf k)).isSome=hasK ks k:=by
     rw [← X4,Bool.eq_iff_iff,Zam keyOf (fun _ _=>Yaa) e2,Vv]
    rw [z]; exact h
   ·exact h.elim
  ·rename_i ks ds hn
   obtain ⟨kvs,e1,e2,e3⟩:=wk.cell n _ a hn ha
   split at h
   ·rename_i es
    split at h
    ·rename_i k hk
     obtain ⟨b,xs,rfl,hb,_,rs⟩:=We rd
     rw [V5 hk rs] at hb
     refine ⟨a,valV kvs (k.map keyOf),rfl,DGet.t e1 hb,?_⟩
     have z:(valV kvs (k.map keyOf)).isSome=hasK ks k:=by
      rw [← X4,Bool.eq_iff_iff,Zam (fun l:List DKey=>l.map keyOf) (fun _ _=>Vaf) e2,Vv]
     rw [z]; exact h
    ·exact h.elim
   ·exact h.elim
  ·exact h.elim
 ·exact h.elim
theorem len_dict {d:D} {v:V} {Qd:QD} (wk:WOk K H θ μ) (rd:Rp K H θ μ d v) (h:wLenD d μ Qd):∃ a kvs,v = .ref a∧H a=some (.dK kvs)∧Qd (.int kvs.length) μ:=by
 unfold wLenD at h
 split at h
 ·rename_i n
  obtain ⟨a,rfl,ha⟩:=Zc rd
  split at h
  ·rename_i ks ds hn
   obtain ⟨kvs,e1,e2,e3⟩:=wk.cell n _ a hn ha
   have l:kvs.length=ks.length:=by have:=congrArg List.length e2; simpa using this
   exact ⟨a,kvs,rfl,e1,by rw [l]; exact h⟩
  ·exact h.elim
 ·exact h.elim
end
end DW
end
section
set_option autoImplicit false
namespace DW
open PySem PySem.Spec PyProof.Rows L2
theorem Z1:isSubtype (.type "list") (.type "dict")=pure false:=by rw [isSubtype_type]; kernel_rfl
theorem Wat:isSubtype (.type "dict") (.type "list")=pure false:=by rw [isSubtype_type]; kernel_rfl
theorem slot_dict_ne:Slot "dict" "__ne__" "dict.__ne__" :=
 .of (owner:="dict") (n:="__ne__") (by rw [typeLookup_type,builtinLookup_eq_fast]; kernel_rfl) (by decide +kernel) (by decide +kernel) (by decide +kernel)
  (by first | exact .inl (by decide +kernel) | exact .inr (by decide +kernel)) (by rw [isSubtype_type]; kernel_rfl)
theorem entry_dict_ne:entryFor table "dict.__ne__" = some Builtin.«dict.__ne__»:=entryFor_of_tree (by kernel_rfl)
theorem Xa2 (a b:Value):argsOk "dict.__ne__" ⟨[a,b],[]⟩:=by unfold argsOk; kernel_rfl
theorem Z4 (l b:Addr) (ol ob:Obj) (hc1:ol.cls = .type "dict") (hc2:ob.cls = .type "list") :
  Meets (Builtin.«dict.__ne__» ⟨[.ref l,.ref b],[]⟩) (fun _ R s=>s.heap.get? l=some ol∧s.heap.get? b=some ob∧R (.ok (.ret .notImplemented)) s) :=
 .of_wp fun prog w A R s h=>by
  obtain ⟨hp,g,d,tk,os⟩:=s
  obtain ⟨oc,od,odt,osl⟩:=ol
  obtain ⟨pc,pd,pdt,psl⟩:=ob
  cases hc1
  cases hc2
  obtain ⟨hl,hb,h⟩:=h
  have f1:=Z1
  wp_walk using wpAny_loadPart' hl,wpAny_loadPart' hb
  exact ⟨_,rfl,h⟩
theorem W9 (l b:Addr) (ol ob:Obj) (hc1:ol.cls = .type "list") (hc2:ob.cls = .type "dict") :
  Meets (Builtin.«list.__ne__» ⟨[.ref l,.ref b],[]⟩) (fun _ R s=>s.heap.get? l=some ol∧s.heap.get? b=some ob∧R (.ok (.ret .notImplemented)) s) :=
 .of_wp fun prog w A R s h=>by
  obtain ⟨hp,g,d,tk,os⟩:=s
  obtain ⟨oc,od,odt,osl⟩:=ol
  obtain ⟨pc,pd,pdt,psl⟩:=ob
  cases hc1
  cases hc2
  obtain ⟨hl,hb,h⟩:=h
  have f1:=Wat
  wp_walk using wpAny_loadPart' hl,wpAny_loadPart' hb
  exact ⟨_,rfl,h⟩
theorem Ya8 {prog:Program} {w:World} {A:Around} {E:Value→Shared→Prop} {s:Shared} {l b:Addr} {ol ob:Obj} {Q:Value→Shared→Prop} (h1:s.heap.get? l=some ol) (h2:s.heap.get? b=some ob) (c1:ol.cls = .type "dict") (c2:ob.cls = .type "list") (hu:A.units < cLine) (q:Q (.bool true) s) :
  wpAny (model prog w) A (richCompare .NotEq (.ref l) (.ref b)) Q E s:=by
 have ne:l≠b:=fun e=>by subst e; rw [h1] at h2; cases h2; rw [c1] at c2; exact absurd c2 (by simp)
 have t1:s.TypeIs (.ref l) "dict":=⟨_,h1,c1⟩
 have t2:s.TypeIs (.ref b) "list":=⟨_,h2,c2⟩
 exact SeqAt.rc_ne_decline_or (k:=false) t1 t2 (by decide) Z1 slot_dict_ne F.slot_list_ne_refl
  (fun _ z=>call_meets slot_dict_ne t1 entry_dict_ne (Xa2 _ _) (Z4 l b ol ob c1 c2) ⟨h1,h2,z⟩)
  (fun _ z=>call_meets F.slot_list_ne_refl t2 F.entry_list_ne (F.args_list_ne_2 _ _) (W9 b l ob ol c2 c1) ⟨h2,h1,z⟩)
  (fun _ z=>wpAny_isSame_ref_other ne h1 h2 (by rw [c1]; simp) z) (.inr hu) q
end DW
end
section
set_option autoImplicit false
namespace DW
open PySem PySem.Spec PyProof.Rows L2
section
variable {X:Cx}
theorem sv_of {H:Hp} {θ:List Addr} {μ:Mem} {d e:D} {v:V} {u:Value} {b:Bool} (r:Rp X.K H θ μ d v) (ru:RelV v u) (h:(∃ i,d = .int i)∨∃ x,d = .str x):SV u d:=by
 rcases h with ⟨i,rfl⟩ | ⟨x,rfl⟩
 ·cases Zb r; obtain ⟨t,rfl⟩:=ru; exact .inl ⟨i,t,rfl,rfl⟩
 ·cases (Wd r).1; obtain ⟨t,rfl⟩:=ru; exact .inr ⟨x,t,rfl,rfl⟩
theorem sc2_cases {d:D} (h:sc2 d=true):(∃ i,d = .int i)∨∃ x,d = .str x:=by
 cases d <;> simp [sc2] at h
 ·exact .inl ⟨_,rfl⟩
 ·exact .inr ⟨_,rfl⟩
theorem svs_of {H:Hp} {θ:List Addr} {μ:Mem}:∀ {ds:List D} {vs:List V} {us:List Value},Rps X.K H θ μ ds vs→Vals vs us→ds.all sc2=true→SVs us ds
 | [],vs,us,r,rv,_=>by cases r.nil_inv; cases rv; exact .nil
 | d :: ds,vs,us,r,rv,h=>by
  obtain ⟨v,vr,rfl,h1,h2⟩:=r.cons_inv
  simp only [List.all_cons,Bool.and_eq_true] at h
  cases rv with
  | cons ru rr=>exact .cons (sv_of (e:=.non) (b:=true) h1 ru (sc2_cases h.1)) (svs_of h2 rr h.2)
theorem nonV {K:PySem.W.Frag} {H:Hp} {θ:List Addr} {μ:Mem} {d:D} {x:V} (r:Rp K H θ μ d x):decide (x = .non)=isNon d:=by
 cases d with
 | non=>cases Xz r; rfl
 | bl b=>cases Zi r; rfl
 | int b=>cases Zb r; rfl
 | str b=>cases (Wd r).1; rfl
 | tup ds=>obtain ⟨a,xs,rfl,_⟩:=We r; rfl
 | lst ds=>obtain ⟨a,xs,rfl,_⟩:=Xh r; rfl
 | ro ds=>obtain ⟨a,xs,rfl,_⟩:=inv_ro r; rfl
 | loc n=>obtain ⟨a,rfl,_⟩:=Zc r; rfl
 | dic ks ds=>obtain ⟨a,xs,rfl,_⟩:=Ya7 r; rfl
 | fdc ks ds=>obtain ⟨a,o,xs,rfl,_⟩:=inv_fdc r; rfl
noncomputable def Waa (its:List Value) (ds:List D) (x:D) (y:Value):Bool:=open Classical in if h:∃ j:Nat,its[j]? = some y then (match ds[h.choose]? with | some d=>eqD d x | none=>false) else false
theorem in_items {pins:List (Addr×Obj)} {σ:L2.St} {H:Hp} {s:Shared} {θ:List Addr} {μ:Mem} {d e:D} {x y:V} {v u:Value} {ds:List D} (I:Inv X pins σ H s) (wk:WOk X.K H θ μ) (re:Rp X.K H θ μ e y) (ry:RelV y u) (hq:Yb μ e=some ds)
  (f1:flats 60 ds=true) (f2:flat 60 d=true) (rd:Rp X.K H θ μ d x) (rx:RelV x v) (hu:X.A.units + 64 < cLine) :
  ∃ (its:List Value) (a:Addr),u = .ref a∧(s.heap.IsList a its.toArray∨s.heap.IsTuple a its.toArray)∧(∀ w∈its.toArray,SeqAt.EqAt X.A.in1 s w v (Waa its ds d w))∧its.toArray.any (Waa its ds d)=ds.any fun d'=>eqD d' d:=by
 obtain ⟨a,xs,rfl,hs,rs⟩:=Vi wk re hq
 cases ry
 obtain ⟨its,rv,hl⟩:∃ its:List Value,Vals xs its∧(s.heap.IsList a its.toArray∨s.heap.IsTuple a its.toArray):=by
  rcases hs with h | h
  ·obtain ⟨its,rv,p,_⟩:=I.list h
   exact ⟨its,rv,.inl p.isList⟩
  ·obtain ⟨its,rv,p,_⟩:=I.tuple h
   exact ⟨its,rv,.inr p⟩
 obtain ⟨as0,ra0⟩:=Zf I 60 d x v rd rx f2
 have fl:∀ (n:Nat) (l:List D),flats n l=true→∀ (j:Nat) (e:D),l[j]? = some e→flat n e=true:=by
  intro n l
  induction l with
  | nil=>intro _ j e h; simp at h
  | cons c l ih =>
   intro h j e he
   have h':flat n c=true∧flats n l=true:=by simpa [flats] using h
   cases j with
   | zero=>simp at he; subst he; exact h'.1
   | succ j=>exact ih h'.2 j e (by simpa using he)
 have at_:∀ (j:Nat) (w:Value),its[j]? = some w→∃ (e:D) (as:List Addr),ds[j]? = some e∧Reads s.heap w (pd e) as∧flat 60 e=true:=by
  intro j w hw
  have hj:j < its.length:=(List.getElem?_eq_some_iff.mp hw).1
  have hj2:j < ds.length:=by rw [rs.length,rv.length]; exact hj
  have he:ds[j]? = some ds[j]:=List.getElem?_eq_getElem hj2
  obtain ⟨z,z1,z2⟩:=rs.get he
  obtain ⟨w',w1,w2⟩:=rv.get z1
  rw [hw] at w1; cases w1
  obtain ⟨as,ra⟩:=Zf I 60 ds[j] z w z2 w2 (fl 60 ds f1 j _ he)
  exact ⟨ds[j],as,he,ra,fl 60 ds f1 j _ he⟩
 have val:∀ (j:Nat) (w:Value) (e:D),its[j]? = some w→ds[j]? = some e→Waa its ds d w=eqD e d:=by
  intro j w e hw he
  have hx:∃ j:Nat,its[j]? = some w:=⟨j,hw⟩
  unfold Waa
  rw [dif_pos hx]
  obtain ⟨e1,as1,g1,g2,g3⟩:=at_ _ w hx.choose_spec
  obtain ⟨e2,as2,k1,k2,k3⟩:=at_ j w hw
  rw [he] at k1; cases k1
  rw [g1]
  have un:=SeqAt.Reads.unique (pd e1) (pd e) _ _ _ (Wf _ _ g3) g2 k2
  show eqD e1 d=eqD e d
  rw [← W2 60 60 e1 d g3 f2,← W2 60 60 e d k3 f2,un]
 refine ⟨its,a,rfl,hl,fun w hw=>?_,?_⟩
 ·obtain ⟨j,hj⟩:=List.getElem?_of_mem (show w∈its by simpa using hw)
  obtain ⟨e,as,k1,k2,k3⟩:=at_ j w hj
  rw [val j w e hj k1,← W2 60 60 e d k3 f2]
  have hd:=Ww _ _ f2
  exact SeqAt.eqAt_reads (pd e) (pd d) X.A.in1 s w v as as0 k2 ra0 (Wf _ _ k3) (Wf _ _ f2) (by show X.A.units + 1 + _ < cLine; omega)
 ·have key:∀ (js:List Nat),(∀ j∈js,j < its.length)→(js.any fun j=>(its[j]?.map (Waa its ds d)).getD false)=js.any fun j=>(ds[j]?.map fun d'=>eqD d' d).getD false:=by
   intro js
   induction js with
   | nil=>intro _; rfl
   | cons j js ih =>
    intro h
    have hj:=h j (by simp)
    have hj2:j < ds.length:=by rw [rs.length,rv.length]; exact hj
    rw [List.any_cons,List.any_cons,ih fun i hi=>h i (by simp [hi])]
    congr 1
    rw [List.getElem?_eq_getElem hj,List.getElem?_eq_getElem hj2]
    exact val j _ _ (List.getElem?_eq_getElem hj) (List.getElem?_eq_getElem hj2)
  have hlen:its.length=ds.length:=by rw [rs.length,rv.length]
  have all:∀ {α:Type} (l:List α) (p:α→Bool),l.any p=(List.range l.length).any fun j=>(l[j]?.map p).getD false:=by
   intro α l p
   rw [Bool.eq_iff_iff,List.any_eq_true,List.any_eq_true]
   constructor
   ·rintro ⟨z,hz,hp⟩
    obtain ⟨j,hj⟩:=List.getElem?_of_mem hz
    have:=(List.getElem?_eq_some_iff.mp hj).1
    exact ⟨j,by simpa using this,by rw [hj]; simpa using hp⟩
   ·rintro ⟨j,hj,hp⟩
    have hj':j < l.length:=by simpa using hj
    rw [List.getElem?_eq_getElem hj'] at hp
    exact ⟨l[j],List.getElem_mem hj',by simpa using hp⟩
  rw [List.any_toArray,all its,all ds,hlen]
  exact key _ fun j hj=>by rw [hlen]; simpa using hj
theorem Zah {k:Nat} (hr:Room k X.A) (op:CmpOp):OpR X (compareOp op) (low2 X.K (wCmp op)):=by
 intro pins s σ H x y v u Q I rx ry h
 obtain ⟨d,e,θ,μ,Qd,wk,rd,re,hw,f⟩:=h
 have hu:X.A.units + 64 < cLine:=hr.units
 have bl:∀ {b:Bool} {s':Shared},Inv X pins σ H s'→Qd (.bl b) μ→EP X pins σ Q (.bool b) s':=fun I' q=>⟨.bl _,H,I',rfl,f.at wk Wn q⟩
 cases op with
 | Eq =>
  obtain ⟨f1,f2,q⟩:=hw
  obtain ⟨as,ra⟩:=Zf I 60 d x v rd rx f1
  obtain ⟨bs,rb⟩:=Zf I 60 e y u re ry f2
  refine SeqAt.compareEq_reads ra rb (Wf _ _ f1) (Wf _ _ f2) ?_ ?_
  ·have:=Ww _ _ f1
   omega
  ·rw [W2 _ _ _ _ f1 f2]; exact bl I q
 | NotEq =>
  by_cases hd:∃ n,d = .loc n
  ·obtain ⟨n,rfl⟩:=hd
   have hw:wNeE n e μ Qd:=hw
   unfold wNeE at hw
   split at hw
   ·rename_i ds hn
    split at hw
    ·obtain ⟨a,rfl,ha⟩:=Zc rd
     cases rx
     obtain ⟨xs,hx,rs⟩:=wk.list hn ha
     obtain ⟨its,vi,pl,hz⟩:=I.list (SqL.of hx)
     obtain ⟨b,ys,rfl,hy,_,r2⟩:=Xh re
     cases ry
     cases r2.nil_inv
     obtain ⟨its2,vi2,pl2,hz2⟩:=I.list (SqL.of hy)
     have e2:its2=[]:=List.length_eq_zero_iff.mp vi2.length.symm
     subst e2
     have l1:its.length=ds.length:=by rw [← vi.length,← rs.length]
     cases ds with
     | nil =>
      have e1:its=[]:=List.length_eq_zero_iff.mp (by rw [l1]; rfl)
      subst e1
      exact SeqAt.RcNeAt.lists (e:=fun _=>true) pl.isList pl2.isList rfl (by omega) (fun j h1 h2=>absurd h1 (by simp)) _ _ _ _ (bl I hw)
     | cons d0 ds =>
      exact SeqAt.RcNeAt.lists_lengths pl.isList pl2.isList (by simp at l1 ⊢; rw [← List.length_eq_zero_iff,l1]; simp) (by omega) _ _ _ _ (bl I hw)
    ·exact hw.elim
   ·exact hw.elim
  have hw:flat 60 d=true∧flat 60 e=true∧Qd (.bl (!eqD d e)) μ:=by
   cases d with
   | loc n=>exact absurd ⟨n,rfl⟩ hd
   | _=>exact hw
  obtain ⟨f1,f2,q⟩:=hw
  obtain ⟨as,ra⟩:=Zf I 60 d x v rd rx f1
  obtain ⟨bs,rb⟩:=Zf I 60 e y u re ry f2
  refine SeqAt.compareNe_reads ra rb (Wf _ _ f1) (Wf _ _ f2) ?_ ?_
  ·have:=Ww _ _ f1
   omega
  ·rw [W2 _ _ _ _ f1 f2]; exact bl I q
 | Lt =>
  simp only [wCmp] at hw
  cases d with
  | int i =>
   cases e with
   | int j=>simp only [ltD] at hw; exact op_lt pins s σ H x y v u Q I rx ry ⟨i,j,Zb rd,Zb re,f.at wk Wn hw⟩
   | _=>simp [ltD] at hw
  | str a =>
   cases e with
   | str b =>
    simp only [ltD] at hw
    refine op_lt_str pins s σ H x y v u Q I rx ry ⟨_,_,(Wd rd).1,(Wd re).1,f.at wk Wn ?_⟩
    rw [Wal] at hw
    simpa using hw
   | _=>simp [ltD] at hw
  | tup ds =>
   cases e with
   | tup es =>
    simp only [ltD] at hw
    split at hw
    ·rename_i r hl
     split at hl
     ·rename_i hsc
      rw [Bool.and_eq_true] at hsc
      obtain ⟨a,xs,rfl,h1,_,r1⟩:=We rd
      obtain ⟨b,ys,rfl,h2,_,r2⟩:=We re
      cases rx; cases ry
      obtain ⟨its,rv1,p1,_⟩:=I.tuple (SqT.of h1)
      obtain ⟨jts,rv2,p2,_⟩:=I.tuple (SqT.of h2)
      exact lt_tupSV p1 p2 (by simpa using svs_of r1 rv1 hsc.1) (by simpa using svs_of r2 rv2 hsc.2) hl (by omega) (bl I hw)
     ·cases hl
    ·exact hw.elim
   | _=>simp [ltD] at hw
  | _=>simp [ltD] at hw
 | LtE =>
  cases d with
  | int i =>
   cases e with
   | int j=>exact op_le pins s σ H x y v u Q I rx ry ⟨i,j,Zb rd,Zb re,f.at wk Wn hw⟩
   | _=>exact hw.elim
  | str a =>
   cases e with
   | str b =>
    have hw:Qd (.bl (!ltCs b a)) μ:=hw
    cases (Wd rd).1
    cases (Wd re).1
    obtain ⟨t,rfl⟩:=rx
    obtain ⟨t',rfl⟩:=ry
    refine PySem.P.le_str ?_
    rw [Wal] at hw
    refine bl I ?_
    simpa using hw
   | _=>exact hw.elim
  | _=>exact hw.elim
 | Gt =>
  cases d with
  | int i =>
   cases e with
   | int j=>exact op_gt pins s σ H x y v u Q I rx ry ⟨i,j,Zb rd,Zb re,f.at wk Wn hw⟩
   | _=>exact hw.elim
  | _=>exact hw.elim
 | GtE =>
  cases d with
  | int i =>
   cases e with
   | int j=>exact op_ge pins s σ H x y v u Q I rx ry ⟨i,j,Zb rd,Zb re,f.at wk Wn hw⟩
   | _=>exact hw.elim
  | _=>exact hw.elim
 | Is =>
  cases e with
  | non =>
   refine op_isN pins s σ H x y v u Q I rx ry ⟨Xz re,f.at wk Wn ?_⟩
   have hw:Qd (.bl (isNon d)) μ:=hw
   rw [nonV rd]; exact hw
  | bl b =>
   cases d with
   | bl a =>
    cases Zi rd; cases Zi re
    cases rx; cases ry
    exact is_bool (bl I hw)
   | _=>exact hw.elim
  | _=>exact hw.elim
 | IsNot =>
  cases e with
  | non =>
   refine op_notN pins s σ H x y v u Q I rx ry ⟨Xz re,f.at wk Wn ?_⟩
   have hw:Qd (.bl (!isNon d)) μ:=hw
   rw [nonV rd]; exact hw
  | bl b =>
   cases d with
   | bl a =>
    cases Zi rd; cases Zi re
    cases rx; cases ry
    exact isnot_bool (bl I hw)
   | _=>exact hw.elim
  | _=>exact hw.elim
 | In =>
  have hw':(∃ t,e = .str t)∨(∃ ds,Yb μ e=some ds∧flats 60 ds=true∧flat 60 d=true∧Qd (.bl (ds.any fun d'=>eqD d' d)) μ)∨wInD false d e μ Qd:=by
   cases e with
   | str t=>exact .inl ⟨t,rfl⟩
   | _ =>
    right
    simp only [wCmp] at hw
    split at hw
    ·rename_i ds hq; exact .inl ⟨ds,hq,hw⟩
    ·exact .inr hw
  rcases hw' with ⟨t,rfl⟩ | ⟨ds,hq,f1,f2,q⟩ | hD
  ·cases d with
   | str a =>
    cases a with
    | nil=>exact hw.elim
    | cons c r =>
     cases r with
     | nil =>
      refine op_in_str pins s σ H x y v u Q I rx ry ⟨_,_,(Wd rd).1,(Wd re).1,f.at wk Wn ?_⟩
      have q:Qd (.bl (t.contains c)) μ:=hw
      have q2:=StrLaws.found_one ⟨t.toArray⟩ c
      rw [show (⟨[c].toArray⟩:Str)=⟨#[c]⟩ from rfl,q2]
      simpa using q
     | cons _ _=>exact hw.elim
   | _=>exact hw.elim
  ·obtain ⟨its,a,e1,hsq,hany⟩:=in_items I wk re ry hq f1 f2 rd rx hu
   subst e1
   rcases hsq with hsq | hsq
   ·exact SeqAt.in_listAt _ hsq (fun y hy=>(hany.1 y hy)) (bl I (by rw [hany.2]; exact q))
   ·exact SeqAt.in_tupleAt _ hsq (fun y hy=>(hany.1 y hy)) (bl I (by rw [hany.2]; exact q))
  ·obtain ⟨a,o,rfl,g,q⟩:=in_dict wk rd re hD
   cases (show u=Value.ref a from ry)
   exact d_in (by omega) I g rx fun s' I'=>bl I' (by simpa using q)
 | NotIn =>
  have hw':(∃ t,e = .str t)∨(∃ ds,Yb μ e=some ds∧flats 60 ds=true∧flat 60 d=true∧Qd (.bl (!ds.any fun d'=>eqD d' d)) μ)∨wInD true d e μ Qd:=by
   cases e with
   | str t=>exact .inl ⟨t,rfl⟩
   | _ =>
    right
    simp only [wCmp] at hw
    split at hw
    ·rename_i ds hq; exact .inl ⟨ds,hq,hw⟩
    ·exact .inr hw
  rcases hw' with ⟨t,rfl⟩ | ⟨ds,hq,f1,f2,q⟩ | hD
  ·cases d with
   | str a =>
    cases a with
    | nil=>exact hw.elim
    | cons c r =>
     cases r with
     | nil =>
      refine Wav pins s σ H x y v u Q I rx ry ⟨_,_,(Wd rd).1,(Wd re).1,f.at wk Wn ?_⟩
      have q:Qd (.bl (!t.contains c)) μ:=hw
      have q2:=StrLaws.found_one ⟨t.toArray⟩ c
      rw [show (⟨[c].toArray⟩:Str)=⟨#[c]⟩ from rfl,q2]
      simpa using q
     | cons _ _=>exact hw.elim
   | _=>exact hw.elim
  ·obtain ⟨its,a,e1,hsq,hany⟩:=in_items I wk re ry hq f1 f2 rd rx hu
   subst e1
   rcases hsq with hsq | hsq
   ·exact SeqAt.notIn_listAt _ hsq (fun y hy=>(hany.1 y hy)) (bl I (by rw [hany.2]; exact q))
   ·exact SeqAt.notIn_tupleAt _ hsq (fun y hy=>(hany.1 y hy)) (bl I (by rw [hany.2]; exact q))
  ·obtain ⟨a,o,rfl,g,q⟩:=in_dict wk rd re hD
   cases (show u=Value.ref a from ry)
   exact d_notIn (by omega) I g rx fun s' I'=>bl I' (by simpa using q)
end
end DW
end
section
set_option autoImplicit false
set_option maxHeartbeats 2000000
namespace DW
open PySem PySem.Spec PyProof.Rows L2
section
variable {X:Cx} {pins:List (Addr×Obj)} {σ:L2.St} {H:Hp} {s:Shared} {θ:List Addr} {μ:Mem}
theorem Yan {μ:Mem} {n m:Nat}:∀ (ds:List D),flats m (ds.map (thaw μ n))=true→∀ d∈ds,flat m (thaw μ n d)=true
 | [],_,d,h=>by simp at h
 | e :: ds,h,d,hd=>by
  have h':flat m (thaw μ n e)=true∧flats m (ds.map (thaw μ n))=true:=by simpa [flats] using h
  rcases List.mem_cons.mp hd with rfl | hd
  ·exact h'.1
  ·exact Yan ds h'.2 d hd
theorem readsAll_map (μ:Mem) (n:Nat) {K:PySem.W.Frag} {H:Hp} {θ:List Addr} {h:Heap}:∀ (ds:List D) (vs:List V) (us:List Value),Rps K H θ μ ds vs→Vals vs us→(∀ d∈ds,∀ v u,Rp K H θ μ d v→RelV v u→∃ as,Reads h u (pd (thaw μ n d)) as)→∃ as,ReadsAll h us (pds (ds.map (thaw μ n))) as
 | [],vs,us,r,rv,_=>by cases r.nil_inv; cases rv; exact ⟨_,by rw [List.map_nil]; unfold pds; exact .nil⟩
 | d :: ds,vs,us,r,rv,hh=>by
  obtain ⟨v,vr,rfl,h1,h2⟩:=r.cons_inv
  cases rv with
  | cons ru rr =>
   obtain ⟨as,ra⟩:=hh d (by simp) v _ h1 ru
   obtain ⟨bs,rb⟩:=readsAll_map μ n ds vr _ h2 rr fun e he=>hh e (by simp [he])
   exact ⟨as ++ bs,by rw [List.map_cons]; unfold pds; exact .cons ra rb⟩
theorem Yq (I:Inv X pins σ H s) (wk:WOk X.K H θ μ):∀ (n m:Nat) (d:D) (v:V) (u:Value),Rp X.K H θ μ d v→RelV v u→flat m (thaw μ n d)=true→∃ as,Reads s.heap u (pd (thaw μ n d)) as
 | 0,m,d,v,u,r,ru,h=>Zf I m d v u r ru h
 | n + 1,m,d,v,u,r,ru,h=>by
  have ls:∀ {a:Addr} {xs:List V} {ds:List D} {u:Value},H a=some (.lst xs)→Rps X.K H θ μ ds xs→RelV (.ref a) u→flat m (.lst (ds.map (thaw μ n)))=true→∃ as,Reads s.heap u (pd (.lst (ds.map (thaw μ n)))) as:=by
   intro a xs ds u hH rs ru h
   cases ru
   cases m with
   | zero=>simp [flat] at h
   | succ m =>
    obtain ⟨its,rv,⟨o,k,ho,hc,_,hd⟩,_⟩:=I.list (SqL.of hH)
    obtain ⟨as,ra⟩:=readsAll_map μ n ds xs its rs rv fun d hd v u r ru=>Yq I wk n m d v u r ru (Yan ds (by simpa [flat] using h) d hd)
    exact ⟨a :: as,by unfold pd; exact .list ho hc hd (by simpa using ra)⟩
  cases d with
  | tup ds =>
   replace h:flat m (.tup (ds.map (thaw μ n)))=true:=h
   obtain ⟨a,xs,rfl,hH,_,rs⟩:=We r
   cases ru
   cases m with
   | zero=>simp [flat] at h
   | succ m =>
    obtain ⟨its,rv,⟨o,ho,hc,k,hd⟩,_⟩:=I.tuple (SqT.of hH)
    obtain ⟨as,ra⟩:=readsAll_map μ n ds xs its rs rv fun d hd v u r ru=>Yq I wk n m d v u r ru (Yan ds (by simpa [flat] using h) d hd)
    exact ⟨as,by show Reads _ _ (pd (.tup (ds.map (thaw μ n)))) _; unfold pd; exact .tuple ho hc hd (by simpa using ra)⟩
  | lst ds =>
   obtain ⟨a,xs,rfl,hH,_,rs⟩:=Xh r
   exact ls hH rs ru h
  | loc k =>
   obtain ⟨a,rfl,h1⟩:=Zc r
   have e:thaw μ (n + 1) (.loc k)=match μ[k]? with | some (.lst ds)=>.lst (ds.map (thaw μ n)) | _=>.loc k:=rfl
   rw [e] at h ⊢
   cases hk:μ[k]? with
   | none=>rw [hk] at h; simp [flat] at h
   | some c =>
    rw [hk] at h
    cases c with
    | lst ds =>
     obtain ⟨xs,hH,rs⟩:=wk.cell k _ a hk h1
     exact ls hH rs ru h
    | ins _ _=>simp [flat] at h
    | dic _ _=>simp [flat] at h
    | dtc _ _=>simp [flat] at h
    | fdt _ _ _=>simp [flat] at h
    | exc _ _ _=>simp [flat] at h
    | gone=>simp [flat] at h
  | non=>exact Zf I m _ v u r ru h
  | bl _=>exact Zf I m _ v u r ru h
  | int _=>exact Zf I m _ v u r ru h
  | str _=>exact Zf I m _ v u r ru h
  | ro _=>exact Zf I m _ v u r ru h
  | dic _ _=>exact Zf I m _ v u r ru h
  | fdc _ _=>exact Zf I m _ v u r ru h
theorem eqT_ok {k:Nat} (hr:Room k X.A) (neg:Bool):OpR X (compareOp (if neg then .NotEq else .Eq)) (low2 X.K (wEqT neg)):=by
 intro pins s σ H x y v u Q I rx ry h
 obtain ⟨d,e,θ,μ,Qd,wk,rd,re,⟨f1,f2,q⟩,f⟩:=h
 have hu:X.A.units + 64 < cLine:=hr.units
 obtain ⟨as,ra⟩:=Yq I wk 8 60 d x v rd rx f1
 obtain ⟨bs,rb⟩:=Yq I wk 8 60 e y u re ry f2
 have dp:=Ww _ _ f1
 have bl:∀ {b:Bool},Qd (.bl b) μ→EP X pins σ Q (.bool b) s:=fun q=>⟨.bl _,H,I,rfl,f.at wk Wn q⟩
 cases neg with
 | true =>
  refine SeqAt.compareNe_reads ra rb (Wf _ _ f1) (Wf _ _ f2) (by omega) ?_
  rw [W2 _ _ _ _ f1 f2]; exact bl (by simpa using q)
 | false =>
  refine SeqAt.compareEq_reads ra rb (Wf _ _ f1) (Wf _ _ f2) (by omega) ?_
  rw [W2 _ _ _ _ f1 f2]; exact bl (by simpa using q)
noncomputable def tDict1 (key:Key) (v:V):TE:=fun _ H Q=>∀ p,H p=none→Q (.ref p) (upd H p (.dK [(key,v)]))
theorem upd_upd {H:Hp} {p:Addr} {a b:HO}:upd (upd H p a) p b=upd H p b:=by
 funext q
 unfold upd
 split <;> rfl
theorem sys_lt {pins:List (Addr×Obj)} {σ:L2.St} {H:Hp} {s:Shared} (I:Inv X pins σ H s):sysModules < s.heap.objs.size:=by
 have z:=(I.mod.glob.keeps I.bk).lt
 exact Nat.lt_trans (by decide) z
theorem pe_dict1 {key:Key} {ke ve:Expr} {v:V} {pos:Pos} (hk:PE X ke (tC (kV key))) (hv:PE X ve (tC v)):PE X (.Dict [some ke] [ve] pos) (tDict1 key v):=by
 intro pins s σ H Q I q
 have hn:=I.hok.fresh (Nat.le_refl s.heap.objs.size)
 have e0:ObjOk X.prog X.w (upd H s.heap.objs.size (.dK [])) (s.heap.push { cls:=.type "dict",data:=.dict #[] }) s.heap.objs.size (.dK []) :=
  ⟨Nat.zero_le _,beq_eq_false_iff_ne.mpr (Ne.symm (Nat.ne_of_lt (sys_lt I))),[],.nil,Heap.DictOf.new s.heap⟩
 have I1:=I.laid (a:=s.heap.objs.size) (o:=.dK []) (h':=s.heap.push { cls:=.type "dict",data:=.dict #[] }) (t':=s.toks) (fun _ _ z=>Heap.get?_push_of_some _ z) (Nat.le_refl _) e0
 refine wpAny_Dict_walk (knd:=Vd X.prog X.w) rfl rfl (by simp) (by simp) (pairTrees_cons_walk ?_)
 refine thn (hk pins _ σ _ (fun x H1=>x=kV key∧H1=upd H s.heap.objs.size (.dK [])) I1 ⟨rfl,rfl⟩) fun u s1 ⟨x,H1,I2,rx,ex,eh⟩=>?_
 subst ex eh
 refine thn (hv pins s1 σ _ (fun y H2=>y=v∧H2=upd H s.heap.objs.size (.dK [])) I2 ⟨rfl,rfl⟩) fun w s2 ⟨y,H2,I3,ry,ey,eh⟩=>?_
 subst ey eh
 refine pairTrees_nil_walk ?_
 obtain ⟨_,hs,vs,kv,dd⟩:=(show ObjOk X.prog X.w _ s2.heap s.heap.objs.size (.dK []) from I3.hok s.heap.objs.size _ Wb)
 cases kv
 have hkey:Wax key u=true:=by
  cases key with
  | inl i=>obtain ⟨t,rfl⟩:=rx; exact Xax i t
  | inr z=>obtain ⟨t,rfl⟩:=rx; exact Yax z t
 refine ⟨[(key,w)],⟨hkey,rfl,trivial⟩,dd,fun h' dd' hsb=>?_⟩
 have he:∃ q,h'.get? s.heap.objs.size=some q:=let ⟨q,_,_,hq,_⟩:=dd'; ⟨q,hq⟩
 have nw:ObjOk X.prog X.w (upd (upd H s.heap.objs.size (.dK [])) s.heap.objs.size (.dK [(key,y)])) h' s.heap.objs.size (.dK [(key,y)]) :=
  ⟨by rw [sizeLine_eq]; simp,hs,[(key,w)],.cons ⟨rfl,ry⟩ .nil,dd'⟩
 have I4:=I3.write (x:=s.heap.objs.size) (e:=s.heap.objs.size) (o:=.dK [(key,y)]) (h':=h') (t':=s2.toks + 1) (by rw [Wb]; exact True.intro) (.inl rfl) (fun b o nb z=>hsb.extBut _ _ nb z) he nw
 rw [upd_upd] at I4
 exact ⟨.ref s.heap.objs.size,_,I4,rfl,q _ hn⟩
theorem new_dict {K:PySem.W.Frag} {H:Hp} {θ:List Addr} {μ:Mem} {Qd:QD} {Q:VK} {p:Addr} {k:DKey} {i:Int} (wk:WOk K H θ μ) (f:Fin K H θ μ Qd Q) (h:Qd (.loc μ.length) (μ ++ [.dic [k] [.int i]])) (hp:H p=none):Q (.ref p) (upd H p (.dK [(keyOf k,.int i)])):=by
 have g:Grow H θ μ (upd H p (.dK [(keyOf k,.int i)])) (θ ++ [p]) (μ ++ [.dic [k] [.int i]]):=Grow.new wk hp
 refine f (.loc μ.length) (.ref p) _ (θ ++ [p]) (μ ++ [.dic [k] [.int i]]) (wk.new (c:=.dic [k] [.int i]) hp (show CellOk K _ _ _ p (.dic [k] [.int i]) from ⟨_,Wb,rfl,Reps.one Yc⟩)) g ?_ h
 unfold Rep
 exact ⟨p,rfl,by rw [← wk.len]; simp⟩
end
end DW
end
section
set_option autoImplicit false
namespace DW
open PySem PySem.Spec PyProof.Rows L2
section
variable {X:Cx}
theorem neX_ok {k:Nat} (hr:Room k X.A):OpR X (compareOp .NotEq) (low2 X.K wNeX):=by
 intro pins s σ H x y v u Q I rx ry h
 obtain ⟨d,e,θ,μ,Qd,wk,rd,re,hq,f⟩:=h
 have hu:X.A.units + 64 < cLine:=hr.units
 have old:wEqT true d e μ Qd→wpAny (model X.prog X.w) X.A (compareOp .NotEq v u) (EP X pins σ Q) X.xe s:=fun z=>eqT_ok hr true pins s σ H x y v u Q I rx ry ⟨d,e,θ,μ,Qd,wk,rd,re,z,f⟩
 unfold wNeX at hq
 split at hq
 ·rename_i n
  split at hq
  ·rename_i ks ds hn
   split at hq
   ·rename_i m
    split at hq
    ·rename_i es hm
     obtain ⟨a,rfl,h1⟩:=Zc rd
     obtain ⟨kvs,k1,_,_⟩:=wk.cell n _ a hn h1
     obtain ⟨b,rfl,h2⟩:=Zc re
     obtain ⟨ys,hy,_⟩:=wk.list hm h2
     cases rx
     cases ry
     obtain ⟨_,_,vs,_,od,_,_,e1,e2,_⟩:=(show ObjOk X.prog X.w H s.heap a (.dK kvs) from I.hok a _ k1)
     obtain ⟨_,its,c',_,g1⟩:=(show ObjOk X.prog X.w H s.heap b (.lst ys) from I.hok b _ hy)
     exact Ya8 e1 g1 e2.1 rfl (by omega) ⟨.bl true,H,I,rfl,f.at wk Wn hq⟩
    ·exact hq.elim
   ·exact hq.elim
  ·exact old hq
 ·exact old hq
end
end DW
end
section
set_option autoImplicit false
namespace DW
open PySem PySem.Spec PyProof.Rows L2
theorem Xat:isSubtype (.type "tuple") (.type "dict")=pure false:=by rw [isSubtype_type]; kernel_rfl
section
variable {X:Cx}
end
end DW
end
section
set_option autoImplicit false
namespace DW
open PySem PySem.Spec PyProof.Rows L2
section
variable {X:Cx}
theorem truV_of {K:PySem.W.Frag} {H:Hp} {θ:List Addr} {μ:Mem} {d:D} {x:V} {b:Bool} (wk:WOk K H θ μ) (r:Rp K H θ μ d x) (h:truth μ d=some b):TruV K x H b:=by
 cases d with
 | non=>cases Xz r; simp only [truth,Option.some.injEq] at h; exact h.symm
 | bl c=>cases Zi r; simp only [truth,Option.some.injEq] at h; exact h.symm
 | int i=>cases Zb r; simp only [truth,Option.some.injEq] at h; exact h.symm
 | str y =>
  obtain ⟨rfl,hy⟩:=Wd r
  simp only [truth,lenOf,Option.map_some,Option.some.injEq] at h
  refine ⟨by simpa [Str.length] using hy,?_⟩
  rw [← h]
  simp [Str.length]
  cases y <;> simp <;> omega
 | fdc ks ds=>simp [truth,lenOf,Yb] at h
 | dic ks ds =>
  obtain ⟨a,kvs,rfl,h1,_,h2,h3⟩:=Ya7 r
  simp only [truth,Option.some.injEq] at h
  refine .inr (.inr ⟨kvs,h1,?_⟩)
  have:=congrArg List.length h2
  simp at this
  rw [← h,← this]
  cases kvs <;> simp
 | tup ds =>
  simp only [truth,lenOf,Yb,Option.map_some,Option.some.injEq] at h
  obtain ⟨a,xs,rfl,hs,rs⟩:=Vi wk r (show Yb μ (.tup ds)=some ds from rfl)
  have e:b = !xs.isEmpty:=by rw [← h,rs.length]; cases xs <;> simp
  rcases hs with hs | hs
  ·exact .inl ⟨xs,hs,e⟩
  ·exact .inr (.inl ⟨xs,hs,e⟩)
 | lst ds =>
  simp only [truth,lenOf,Yb,Option.map_some,Option.some.injEq] at h
  obtain ⟨a,xs,rfl,hs,rs⟩:=Vi wk r (show Yb μ (.lst ds)=some ds from rfl)
  have e:b = !xs.isEmpty:=by rw [← h,rs.length]; cases xs <;> simp
  rcases hs with hs | hs
  ·exact .inl ⟨xs,hs,e⟩
  ·exact .inr (.inl ⟨xs,hs,e⟩)
 | ro ds =>
  simp only [truth,lenOf,Yb,Option.map_some,Option.some.injEq] at h
  obtain ⟨a,xs,rfl,hs,rs⟩:=Vi wk r (show Yb μ (.ro ds)=some ds from rfl)
  have e:b = !xs.isEmpty:=by rw [← h,rs.length]; cases xs <;> simp
  rcases hs with hs | hs
  ·exact .inl ⟨xs,hs,e⟩
  ·exact .inr (.inl ⟨xs,hs,e⟩)
 | loc n =>
  simp only [truth,lenOf] at h
  cases q:Yb μ (.loc n) with
  | none=>rw [q] at h; cases h
  | some ds =>
   rw [q] at h
   simp only [Option.map_some,Option.some.injEq] at h
   obtain ⟨a,xs,rfl,hs,rs⟩:=Vi wk r q
   have e:b = !xs.isEmpty:=by rw [← h,rs.length]; cases xs <;> simp
   rcases hs with hs | hs
   ·exact .inl ⟨xs,hs,e⟩
   ·exact .inr (.inl ⟨xs,hs,e⟩)
theorem Xy {a:Expr} {wa:WE} (ha:PE X a (LE X.K wa)) (he:∀ whole,isTrue a X.env whole=(do let v ← whole; standAt a.pos; holding [v] (truthy v))) :
  PT X a (LT X.K fun ρ μ Q=>wa ρ μ fun d μ1=>wTru d μ1 Q):=PT.wk (pt_truth ha he) fun σ H Q h=>by
 obtain ⟨ρ,θ,μ,Qd,s,h,f⟩:=h
 refine ⟨ρ,θ,μ,_,s,h,fun d v H1 θ1 μ1 w1 g1 r1 h1=>?_⟩
 unfold wTru at h1
 split at h1
 ·rename_i b e
  exact ⟨b,truV_of w1 r1 e,f b H1 θ1 μ1 w1 g1 h1⟩
 ·exact h1.elim
theorem kit_tab (K:PySem.W.Frag):∀ a∈["NoneType","bool","int","str","tuple","list","dict"],∀ b∈["int","bool","str","tuple","list","dict"],PySem.W.kitOne K (.type a) (.type b)=some (isTy a b):=by
 intro a ha b hb
 simp only [List.mem_cons,List.not_mem_nil,or_false] at ha hb
 rcases ha with rfl | rfl | rfl | rfl | rfl | rfl | rfl <;> rcases hb with rfl | rfl | rfl | rfl | rfl | rfl <;> first | rfl | decide
theorem tyOf_TyOf {K:PySem.W.Frag} {H:Hp} {θ:List Addr} {μ:Mem} {d:D} {x:V} {t:String} (wk:WOk K H θ μ) (r:Rp K H θ μ d x) (h:tyOf μ d=some t):TyOf K H x (.type t)∧t∈["NoneType","bool","int","str","tuple","list","dict"]:=by
 cases d with
 | non=>cases Xz r; cases h; exact ⟨.non,by simp⟩
 | bl c=>cases Zi r; cases h; exact ⟨.bl _,by simp⟩
 | int i=>cases Zb r; cases h; exact ⟨.int _,by simp⟩
 | str y=>cases (Wd r).1; cases h; exact ⟨.str _,by simp⟩
 | dic ks ds=>obtain ⟨a,kvs,rfl,h1,_⟩:=Ya7 r; cases h; exact ⟨.dK h1,by simp⟩
 | fdc ks ds=>cases h
 | tup ds=>obtain ⟨a,kvs,rfl,h1,_⟩:=We r; cases h; exact ⟨.tup h1,by simp⟩
 | lst ds=>obtain ⟨a,kvs,rfl,h1,_⟩:=Xh r; cases h; exact ⟨.lst h1,by simp⟩
 | ro ds=>cases h
 | loc n =>
  obtain ⟨a,rfl,h1⟩:=Zc r
  simp only [tyOf] at h
  split at h
  ·rename_i es hn
   cases h
   obtain ⟨xs,h2,_⟩:=wk.list hn h1
   exact ⟨.lst h2,by simp⟩
  ·rename_i ks es hn
   cases h
   obtain ⟨kvs,h2,_⟩:=wk.cell n _ a hn h1
   exact ⟨.dK h2,by simp⟩
  ·cases h
theorem boot_tys:∀ b∈["int","bool","str","tuple","list","dict"],bootBuiltins (Str.ofString b)=some (.type b)∧Str.ofString b≠"__name__"∧(Str.ofString b == ("__debug__" : Str))=false:=by
 intro b hb
 simp only [List.mem_cons,List.not_mem_nil,or_false] at hb
 rcases hb with rfl | rfl | rfl | rfl | rfl | rfl <;> exact ⟨by decide +kernel,by decide +kernel,by decide +kernel⟩
theorem Za9:bootBuiltins "isinstance" = some (.builtin "isinstance"):=by decide +kernel
theorem Va8:CallR X (.builtin "isinstance") (fun xs H Q=>∃ x t c,xs=[x,.ty c]∧TyOf X.K H x (.type t)∧t∈["NoneType","bool","int","str","tuple","list","dict"]∧c∈["int","bool","str","tuple","list","dict"]∧Q (.bl (isTy t c)) H):=by
 intro pins s σ H xs us Q I r h
 obtain ⟨x,t,c,rfl,ty,ht,hc,q⟩:=h
 obtain ⟨u,w',rfl,rx,ry⟩:=vals2 r
 cases ry
 exact isinst_ok I rx ty (kit_tab X.K t ht c hc) fun tk=>⟨.bl _,H,I.tok tk,rfl,q⟩
theorem pe_isinD {a:Expr} {wa:WE} {t:String} {y z:Str} {p p2 pos:Pos} (ha:PE X a (LE X.K wa)) (ey:y=Str.ofString "isinstance") (ht:t∈["int","bool","str","tuple","list","dict"]) (ez:z=Str.ofString t) (g1:Gl X y) (g2:Gl X z) (m1:X.mg y=none) (m2:X.mg z=none)
  (hs:starEach [a,.Name z p2] X.env=(false,eval a X.env) :: starEach [.Name z p2] X.env) :
  PE X (.Call (.Name y p) [a,.Name z p2] [] pos) (LE X.K fun ρ μ Q=>wa ρ μ fun d μ1=>Wx t d μ1 Q):=by
 subst ey ez
 obtain ⟨b1,b2,b3⟩:=boot_tys t ht
 have hz:PE X (.Name (Str.ofString t) p2) (tC (.ty t)):=pe_bltn g2 m2 b1 rfl b2 b3
 refine PE.wk (Yj (x:=Str.ofString "isinstance") Va8 g1 m1 Za9 (Xak ha (Xak hz pa_nil) hs) (by decide +kernel) (by decide +kernel) hs rfl) fun σ H Q h=>?_
 obtain ⟨ρ,θ,μ,Qd,s,h,f⟩:=h
 refine ⟨ρ,θ,μ,_,s,h,fun d v H1 θ1 μ1 w1 g1 r1 h1=>?_⟩
 unfold Wx at h1
 split at h1
 ·rename_i ty e
  obtain ⟨k1,k2⟩:=tyOf_TyOf w1 r1 e
  exact ⟨v,ty,t,rfl,k1,k2,ht,f _ _ H1 θ1 μ1 w1 g1 Wn h1⟩
 ·exact h1.elim
theorem ixD_eq (n:Nat) (i:Int):ixD n i=ixN n i:=rfl
theorem reps_at {K:PySem.W.Frag} {H:Hp} {θ:List Addr} {μ:Mem} {ds:List D} {xs:List V} {i:Int} {d:D} (r:Rps K H θ μ ds xs) (h:(ixD ds.length i).bind (ds[·]?)=some d):∃ v,atI xs i=some v∧Rp K H θ μ d v:=by
 rw [r.length,ixD_eq] at h
 cases q:ixN xs.length i with
 | none=>rw [q] at h; cases h
 | some j =>
  rw [q] at h
  obtain ⟨v,e1,e2⟩:=r.get (i:=j) h
  exact ⟨v,by unfold atI; rw [q]; exact e1,e2⟩
theorem idx_ok:IxR X (low2 X.K wIdx):=by
 intro value slice pins s σ H x y v u Q I rx ry h hs
 obtain ⟨d,e,θ,μ,Qd,wk,rd,re,hw,f⟩:=h
 unfold wIdx at hw
 split at hw
 ·rename_i z i
  cases Zb re
  obtain ⟨rfl,hz⟩:=Wd rd
  split at hw
  ·rename_i c hc
   refine ix_str value slice pins s σ H _ _ v u Q I rx ry ⟨_,i,c,rfl,rfl,by simpa [Str.length] using hz,?_,f.at wk (Z8 (x:=[c]) (by simp [sizeLine_eq])) hw⟩ hs
   unfold atI
   simpa [ixD_eq] using hc
  ·exact hw.elim
 ·rename_i x' i hne
  cases Zb re
  split at hw
  ·rename_i ds hq
   obtain ⟨a,xs,rfl,hx,r⟩:=Vi wk rd hq
   split at hw
   ·rename_i d' hd
    obtain ⟨w',e1,e2⟩:=reps_at r hd
    rcases hx with hx | hx
    ·exact ix_list value slice pins s σ H _ _ v u Q I rx ry ⟨a,xs,i,w',rfl,rfl,hx,e1,f.at wk e2 hw⟩ hs
    ·exact ix_tup value slice pins s σ H _ _ v u Q I rx ry ⟨a,xs,i,w',rfl,rfl,hx,e1,f.at wk e2 hw⟩ hs
   ·exact hw.elim
  ·exact hw.elim
 ·exact hw.elim
theorem Vo (n d:Nat) (o:Option Int):sIxD n d o=HT.sIx n d o:=by
 cases o with
 | none=>rfl
 | some v=>first | rfl | (simp only [sIxD,HT.sIx]; done) | (simp only [sIxD,HT.sIx]; split <;> omega)
noncomputable def lowSl (K:PySem.W.Frag) (m:Bool):V→Option Int→Option Int→Hp→VK→Prop:=fun x lo hi H Q=>∃ d θ μ Qd,WOk K H θ μ∧Rp K H θ μ d x∧wSlc m d lo hi μ Qd∧Fin K H θ μ Qd Q
theorem tup_whole {prog:Program} {w:World} {A:Around} {E:Value→Shared→Prop} {s:Shared} {t sl:Addr} {its:Array Value} {vl vu:Value} {lo hi:Option Int} {Q:Value→Shared→Prop}
  (ht:IsTup s.heap t its) (hs:s.heap.IsSliceOf sl vl vu .none) (pl:IsPart vl lo) (pu:IsPart vu hi) (h0:HT.sIx its.size 0 lo=0) (h1:HT.sIx its.size its.size hi=its.size) (h:Q (.ref t) s) :
  wpAny (model prog w) A (getItem (.ref t) (.ref sl)) Q E s:=by
 have ts:s.TypeIs (.ref sl) "slice":=by
  obtain ⟨os,a,b,_⟩:=id hs
  exact ⟨os,a,b⟩
 unfold getItem
 (try with_reducible refine wpAny_holding ?_)
 (first | refine wpAny_bind (wpAny_pure ?_) | skip)
 refine wpAny_bind
  (wpAny_sequenceKey ht.typeIs (by decide) ?_)
 refine wpAny_bind (wpAny_callSpecial?_slot
  (name:=Str.ofString "__getitem__") ht.typeIs
  PyProof.Rows.slot_tuple_getitem (wpAny_call_entry
   PyProof.Rows.slot_tuple_getitem ht.typeIs PyProof.Rows.entry_tuple_getitem ?_ (PyProof.Rows.args_tuple_getitem _ _)))
 show wpAny _ _ (Builtin.Tuple.tupleItemsOf _ >>= _) _ _ s
 refine wpAny_bind (PyProof.Rows.tupleItemsOf_ ht
  (wpAny_bind (wpAny_typeOf ts ?_)))
 rw [if_pos (by decide)]
 refine wpAny_bind (HT.sliceApplied_gen hs pl pu ?_)
 rw [h0,h1]
 show wpAny _ _ (if ((((0:Nat):Int) == 0 && (1:Int) == 1 && (its.size - 0) == its.size)=true) then _ else _) _ _ s
 rw [if_pos (by simp)]
 first
  | exact wpAny_bind (wpAny_bind (m:=Builtin.Tuple.tupleIsExact _) (wpAny_bind (wpAny_typeOf ht.typeIs (wpAny_pure (wpAny_bind (wpAny_rule (wpAny_bind (wpAny_pure ⟨_,rfl,wpAny_pure h⟩))))))))
  | exact wpAny_bind (m:=Builtin.Tuple.tupleIsExact _) (wpAny_bind (wpAny_typeOf ht.typeIs (wpAny_pure (by
    show wpAny _ _ (if ((Value.type "tuple" == Value.type "tuple")=true) then _ else _) _ _ s
    rw [if_pos (by decide)]
    first
     | exact wpAny_bind (wpAny_rule (wpAny_pure ⟨_,rfl,wpAny_pure h⟩))
     | exact wpAny_bind (wpAny_rule (wpAny_bind (wpAny_pure (wpAny_pure ⟨_,rfl,wpAny_pure h⟩))))
     | exact wpAny_bind (wpAny_rule (wpAny_bind (wpAny_pure ⟨_,rfl,wpAny_pure h⟩)))))))
theorem part_of {v:Value} {o:Option Int} (h:IsPart v o):∃ l:Option (Int×Tok),partValue l=v∧l.map (·.1)=o:=by
 cases h with
 | none=>exact ⟨none,rfl,rfl⟩
 | int i t=>exact ⟨some (i,t),rfl,rfl⟩
theorem str_picks {z:List Nat} {lo hi:Option Int} (h1:∀ i,lo=some i→0≤i) (h2:∀ i,hi=some i→0≤i) :
  Builtin.Str.strSliceIndices lo hi 1 z.length=Builtin.Str.strSliceIndices (some ((sIxD z.length 0 lo:Nat):Int)) (some ((sIxD z.length z.length hi:Nat):Int)) 1 z.length:=by
 have e1:∀ (d:Nat) (i:Int),0≤i→((sIxD z.length d (some i):Nat):Int)=min i z.length:=fun d i a=>by unfold sIxD; simp only [show ¬ i < 0 by omega,if_false]; omega
 have c0:((sIxD z.length 0 none:Nat):Int)=0:=rfl
 have c1:((sIxD z.length z.length none:Nat):Int)=z.length:=rfl
 have k0:∀ hi,Builtin.Str.strSliceIndices none hi 1 z.length=Builtin.Str.strSliceIndices (some 0) hi 1 z.length:=fun hi=>by
  unfold Builtin.Str.strSliceIndices
  have:max (0:Int) (min 0 (z.length:Int))=0:=by omega
  simp [this]
 have k1:∀ lo,Builtin.Str.strSliceIndices lo none 1 z.length=Builtin.Str.strSliceIndices lo (some (z.length:Int)) 1 z.length:=fun lo=>by
  unfold Builtin.Str.strSliceIndices
  have h:¬ ((z.length:Int) < 0):=by omega
  have:max (0:Int) (min (z.length:Int) (z.length:Int))=z.length:=by omega
  simp [h,this]
 have k2:∀ (i:Int) hi,0≤i→Builtin.Str.strSliceIndices (some i) hi 1 z.length=Builtin.Str.strSliceIndices (some (min i z.length)) hi 1 z.length:=fun i hi a=>by
  unfold Builtin.Str.strSliceIndices
  have h:¬ (i < 0):=by omega
  have h':¬ (min i (z.length:Int) < 0):=by omega
  have hm:min (min i (z.length:Int)) (z.length:Int)=min i (z.length:Int):=by omega
  simp [h,h',hm]
 have k3:∀ (i:Int) lo,0≤i→Builtin.Str.strSliceIndices lo (some i) 1 z.length=Builtin.Str.strSliceIndices lo (some (min i z.length)) 1 z.length:=fun i lo a=>by
  unfold Builtin.Str.strSliceIndices
  have h:¬ (i < 0):=by omega
  have h':¬ (min i (z.length:Int) < 0):=by omega
  have hm:min (min i (z.length:Int)) (z.length:Int)=min i (z.length:Int):=by omega
  simp [h,h',hm]
 cases lo with
 | none =>
  cases hi with
  | none=>rw [c0,c1,k0,k1]
  | some j=>rw [c0,e1 _ j (h2 j rfl),k0,k3 j _ (h2 j rfl)]
 | some i =>
  rw [e1 _ i (h1 i rfl),k2 i _ (h1 i rfl)]
  cases hi with
  | none=>rw [c1,k1]
  | some j=>rw [e1 _ j (h2 j rfl),k3 j _ (h2 j rfl)]
theorem slc_ok (m:Bool):SlR X (lowSl X.K m):=by
 intro pins s σ H x v vl vu lo hi sl Q I rx hs pl pu h
 obtain ⟨d,θ,μ,Qd,wk,rd,hw,f⟩:=h
 have go:∀ {ds:List D} {a:Addr} {xs:List V},x = .ref a→SqL X.K H a xs→Rps X.K H θ μ ds xs→newL m (cutD ds lo hi) μ Qd→_:=fun {ds a xs} ex hx r hn =>
  sl_list pins s σ H x v vl vu lo hi sl Q I rx hs pl pu ⟨a,xs,ex,hx,fun p hp=>Yp wk f (by
   have:cutD ds lo hi=(ds.drop (HT.sIx ds.length 0 lo)).take (HT.sIx ds.length ds.length hi - HT.sIx ds.length 0 lo):=by unfold cutD; rw [Vo,Vo]
   rw [this,r.length]
   exact (r.drop _).take _) hn hp⟩
 cases d with
 | lst ds=>obtain ⟨a,xs,rfl,h1,_,r⟩:=Xh rd; exact go rfl (.of h1) r hw
 | str z =>
  obtain ⟨rfl,hz⟩:=Wd rd
  obtain ⟨t,rfl⟩:=rx
  obtain ⟨⟨h1,h2,h3⟩,hq⟩:=hw
  obtain ⟨l,rfl,el⟩:=part_of pl
  obtain ⟨u,rfl,eu⟩:=part_of pu
  have hb:sIxD z.length z.length hi≤z.length:=by
   cases hi with
   | none=>exact Nat.le_refl _
   | some j=>unfold sIxD; simp only [show ¬ j < 0 by have:=h2 j rfl; omega,if_false]; omega
  have hpk:slicePicked ⟨z.toArray⟩ l u none=Builtin.Str.strSliceIndices (some ((sIxD z.length 0 lo:Nat):Int)) (some ((sIxD z.length z.length hi:Nat):Int)) 1 z.length:=by
   unfold slicePicked
   rw [el,eu]
   have:=str_picks (z:=z) h1 h2
   simpa [Str.length] using this
  have hpf:(slicePicked ⟨z.toArray⟩ l u none).filterMap ((⟨z.toArray⟩:Str).cps[·]?)=cutD z lo hi:=by
   rw [hpk]
   have:=StrLaws.sliced_plain ⟨z.toArray⟩ h3 (by simpa [Str.length] using hb)
   simpa [Str.length,cutD] using this
  refine ⟨"str",_,PyProof.Rows.slot_str_getitem.lookup,typeIs_str s _ t,wpAny_getItem_str_slice (l:=l) (u:=u) (st:=none) (by obtain ⟨o,a,b,c⟩:=hs; exact ⟨o,a,b,c⟩) rfl ?_⟩
  have hcl:(cutD z lo hi).length≤sizeLine:=by
   have:(cutD z lo hi).length≤z.length:=by unfold cutD; simp; omega
   omega
  unfold sliceMade
  split
  ·rename_i hw
   have:cutD z lo hi=z:=by
    have hlen:(slicePicked ⟨z.toArray⟩ l u none).length=z.length:=by simpa [Str.length] using hw
    rw [hpk,StrLaws.strSliceIndices_plain h3 hb] at hlen
    simp at hlen
    unfold cutD
    rw [show sIxD z.length 0 lo=0 by omega,show sIxD z.length z.length hi=z.length by omega]
    simp
   rw [this] at hq
   exact ⟨.str _,H,I,⟨t,rfl⟩,f.at wk (Z8 hz) hq⟩
  ·rw [hpf]
   exact ⟨by simpa [Str.length] using hcl,.str _,H,I.tok _,⟨_,rfl⟩,f.at wk (Z8 hcl) hq⟩
 | tup ds =>
  obtain ⟨a,xs,rfl,h1,_,r⟩:=We rd
  have hl:=r.length
  have hq:Qd (.tup (cutD ds lo hi)) μ:=hw
  by_cases hn:sIxD ds.length 0 lo=0∧sIxD ds.length ds.length hi=ds.length
  ·cases rx
   obtain ⟨its,ri,ht,hz⟩:=I.tuple (SqT.of h1)
   have hlen:its.toArray.size=ds.length:=by rw [List.size_toArray,← ri.length,hl]
   have ec:cutD ds lo hi=ds:=by
    unfold cutD
    rw [hn.1,hn.2]
    simp
   rw [ec] at hq
   exact ⟨"tuple",_,PyProof.Rows.slot_tuple_getitem.lookup,ht.typeIs,tup_whole ht hs pl pu (by rw [hlen,← Vo]; exact hn.1) (by rw [hlen,← Vo]; exact hn.2) ⟨.ref a,H,I,rfl,f.at wk rd hq⟩⟩
  refine sl_tup pins s σ H _ v vl vu lo hi sl Q I rx hs pl pu ⟨a,xs,rfl,.of h1,?_,fun p hp=>?_⟩
  ·rw [Vo,Vo,hl] at hn; exact hn
  ·refine Yz wk f ?_ hq hp
   have:cutD ds lo hi=(ds.drop (HT.sIx ds.length 0 lo)).take (HT.sIx ds.length ds.length hi - HT.sIx ds.length 0 lo):=by unfold cutD; rw [Vo,Vo]
   rw [this,hl]
   exact (r.drop _).take _
 | loc n =>
  obtain ⟨a,rfl,h1⟩:=Zc rd
  simp only [wSlc] at hw
  split at hw
  ·rename_i ds hn
   obtain ⟨xs,h2,r⟩:=wk.list hn h1
   exact go rfl (.of h2) r hw
  ·exact hw.elim
 | _=>exact hw.elim
theorem Vaj:PSet X (fun o i v H Q=>∃ x y z θ μ k,WOk X.K H θ μ∧Rp X.K H θ μ x o∧Rp X.K H θ μ y i∧Rp X.K H θ μ z v∧Wo x y z μ k∧∀ H' μ',WOk X.K H' θ μ'→Grow H θ μ H' θ μ'→k μ'→Q H'):=by
 intro pins s σ H o i v ov iv u Q I ro ri rv h
 obtain ⟨x,y,z,θ,μ,k,wk,rx,ry,rz,hw,f⟩:=h
 unfold Wo at hw
 split at hw
 ·rename_i n j
  obtain ⟨a,rfl,ha⟩:=Zc rx
  cases Zb ry
  split at hw
  ·rename_i xs hn
   split at hw
   ·rename_i p hp
    obtain ⟨vs,h2,r⟩:=wk.list hn ha
    have g:Grow H θ μ (upd H a (.lst (vs.set p v))) θ (μ.set n (.lst (xs.set p z))):=Grow.write hn ha (by simp) (by simp)
    refine set_list pins s σ H _ _ v ov iv u Q I ro ri rv ⟨a,vs,j,p,rfl,rfl,h2,by rw [← ixD_eq,← r.length]; exact hp,?_⟩
    exact f _ _ (wk.write (c':=.lst (xs.set p z)) hn ha (by simp) (by simp) (show CellOk X.K _ _ _ a (.lst (xs.set p z)) from ⟨_,Wb,(g.reps r).set (g.rep rz) p⟩)) g hw
   ·exact hw.elim
  ·exact hw.elim
 ·exact hw.elim
theorem Zar {m:String} {x:V} {d:D} {ds:List D} {H:Hp} {θ:List Addr} {μ:Mem} {Qd:QD} (wk:WOk X.K H θ μ) (rd:Rp X.K H θ μ d x) (hw:Zu m d ds μ Qd) :
  ∃ n a xs ys,d = .loc n∧x = .ref a∧θ[n]? = some a∧μ[n]? = some (.lst xs)∧H a=some (.lst ys)∧Rps X.K H θ μ xs ys∧Yl m n xs ds μ Qd:=by
 cases d with
 | loc n =>
  obtain ⟨a,rfl,ha⟩:=Zc rd
  simp only [Zu] at hw
  split at hw
  ·rename_i xs hn
   obtain ⟨ys,h2,r⟩:=wk.list hn ha
   exact ⟨n,a,xs,ys,rfl,rfl,ha,hn,h2,r,hw⟩
  ·exact hw.elim
 | _=>exact hw.elim
theorem fin_set {H:Hp} {θ:List Addr} {μ:Mem} {Qd:QD} {Q:VK} {n:Nat} {a:Addr} {xs xs':List D} {ys':List V} {e:D} {v:V} (wk:WOk X.K H θ μ) (f:Fin X.K H θ μ Qd Q) (ha:θ[n]? = some a) (hn:μ[n]? = some (.lst xs)) (r:Rps X.K H θ μ xs' ys')
  (re:Rp X.K H θ μ e v) (h:Qd e (μ.set n (.lst xs'))):Q v (upd H a (.lst ys')):=by
 have g:Grow H θ μ (upd H a (.lst ys')) θ (μ.set n (.lst xs')):=Grow.write hn ha (by simp) (by simp)
 exact f e v _ _ _ (wk.write (c':=.lst xs') hn ha (by simp) (by simp) (show CellOk X.K _ _ _ a (.lst xs') from ⟨_,Wb,g.reps r⟩)) g (g.rep re) h
theorem Xa6:MtR X "list.append" (lowM X.K (Zu "append")):=by
 intro pins s σ H x vs v us Q I rx rv h
 obtain ⟨d,ds,θ,μ,Qd,wk,rd,rs,hw,f⟩:=h
 obtain ⟨n,a,xs,ys,rfl,rfl,ha,hn,h2,r,hw⟩:=Zar wk rd hw
 match ds,hw with
 | [e],hw =>
  obtain ⟨w',vr,rfl,r1,r2⟩:=rs.cons_inv
  cases r2.nil_inv
  have hw:xs.length < lim∧Qd .non (μ.set n (.lst (xs ++ [e]))):=hw
  exact mt_append pins s σ H _ _ v us Q I rx rv ⟨a,ys,w',rfl,rfl,h2,by rw [← r.length,← Xv]; exact hw.1,fin_set wk f ha hn (r.append (Reps.one r1)) Zbf hw.2⟩
 | [],hw=>simp [Yl] at hw
 | e1 :: e2 :: er,hw=>cases e1 <;> cases er <;> simp [Yl] at hw
theorem meets_extT (l:Addr) (as:Array Value) (n:Nat) (b:Addr) (bs:Array Value) (m:Nat) (sl:Array (Option Value)) (h0:¬ (!as.isEmpty && Builtin.List.listTooLong (as.size + bs.size))=true) (h1:as.size≤sizeLine) (h2:(as ++ bs).size≤sizeLine + 1) :
  Meets (Builtin.«list.extend» ⟨[.ref l,.ref b],[]⟩) (fun _ R s=>s.heap.get? l=some { cls:=.type "list",data:=.seq as n }∧s.heap.get? b=some { cls:=.type "tuple",dict:=none,data:=.seq bs m,slots:=sl }∧R (.ok (.ret Value.none)) { s with heap:=s.heap.update l (Obj.mapSeq fun x=>x ++ bs),toks:=s.toks }) :=
 .of_wp fun prog w A R s h=>by
  obtain ⟨hp,gn,dd,tk,os⟩:=s
  obtain ⟨hl,hb,h⟩:=h
  have z1:=AutoSeq1.sub_tuple_list
  have z2:=AutoSeq1.sub_list_tuple
  have z3:=AutoSeq1.sub_tuple_tuple
  have z4:=AutoSeq1.sub_list_list
  wp_walk using (wpAny_updateSeq hl rfl (hz:=h1) (_hz':=h2)),wpAny_loadPart' hl,wpAny_loadPart' hb
  exact ⟨_,rfl,h⟩
theorem mt_extendT {pins:List (Addr×Obj)} {s:Shared} {σ:L2.St} {H:Hp} {a b:Addr} {ys zs:List V} {v:Value} {us:List Value} {Q:VK} {E:Value→Shared→Prop} (I:Inv X pins σ H s) (rx:RelV (.ref a) v) (rv:Vals [.ref b] us) (hH:H a=some (.lst ys)) (hB:H b=some (.tup zs)) (hz:ys.length + zs.length≤sizeLine) (q:Q .non (upd H a (.lst (ys ++ zs)))) :
  wpAny (model X.prog X.w) X.A (call (.builtin "list.extend") (v :: us)) (EP X pins σ Q) E s:=by
 cases rx
 obtain ⟨u,rfl,ru⟩:=rv.one
 cases ru
 obtain ⟨z,its,n,r,hl,e⟩:=I.lstM hH
 obtain ⟨z2,its2,r2,o,e2,c2,n2,d2,nd⟩:=I.hok b _ hB
 obtain ⟨oc,od,oda,osl⟩:=o
 cases c2
 cases d2
 cases nd
 have hl2:=r2.length
 refine call_meets F.slot_list_extend ⟨_,e,rfl⟩ F.entry_list_extend (F.args_list_extend_2 _ _) (meets_extT a its.toArray n b its2.toArray n2 osl (by
  rw [Vbf (by rw [List.size_toArray,List.size_toArray]; omega),Bool.and_false]
  exact Bool.false_ne_true) (by rw [List.size_toArray]; omega) (by simp; omega)) ⟨e,e2,?_⟩
 refine ⟨.non,_,I.lset (its':=its ++ its2) hH e (by simp) (r.append r2) ?_,rfl,q⟩
 rw [List.length_append]; omega
theorem Ya6:MtR X "list.extend" (lowM X.K (Zu "extend")):=by
 intro pins s σ H x vs v us Q I rx rv h
 obtain ⟨d,ds,θ,μ,Qd,wk,rd,rs,hw,f⟩:=h
 obtain ⟨n,a,xs,ys,rfl,rfl,ha,hn,h2,r,hw⟩:=Zar wk rd hw
 match ds,hw with
 | [e],hw =>
  obtain ⟨w',vr,rfl,r1,r2⟩:=rs.cons_inv
  cases r2.nil_inv
  simp only [Yl] at hw
  split at hw
  ·rename_i es he
   obtain ⟨b,zs,rfl,hb,rz⟩:∃ b zs,w' = .ref b∧(H b=some (.lst zs)∨H b=some (.tup zs))∧Rps X.K H θ μ es zs:=by
    cases e with
    | tup l=>simp only [wlT,Option.some.injEq] at he; subst he; obtain ⟨b,zs,e1,e2,_,e3⟩:=We r1; exact ⟨b,zs,e1,.inr e2,e3⟩
    | lst l=>simp only [wlT,wlOf,Option.some.injEq] at he; subst he; obtain ⟨b,zs,e1,e2,_,e3⟩:=Xh r1; exact ⟨b,zs,e1,.inl e2,e3⟩
    | loc k =>
     obtain ⟨b,rfl,hb⟩:=Zc r1
     simp only [wlT,wlOf] at he
     split at he
     ·rename_i l hl
      cases he
      obtain ⟨zs,e1,e2⟩:=wk.list hl hb
      exact ⟨b,zs,rfl,.inl e1,e2⟩
     ·cases he
    | _=>simp [wlT,wlOf] at he
   have l1:=r.length
   have l2:=rz.length
   have hz:ys.length + zs.length≤sizeLine:=by rw [← l1,← l2,← Xv]; exact hw.1
   have fq:=fin_set wk f ha hn (r.append rz) Zbf hw.2
   rcases hb with hb | hb
   ·exact mt_extend pins s σ H _ _ v us Q I rx rv ⟨a,b,ys,zs,rfl,rfl,h2,hb,hz,fq⟩
   ·exact mt_extendT I rx rv h2 hb hz fq
  ·exact hw.elim
 | [],hw=>simp [Yl] at hw
 | e1 :: e2 :: er,hw=>cases e1 <;> cases er <;> simp [Yl] at hw
theorem wl_inv {H:Hp} {θ:List Addr} {μ:Mem} {d:D} {v:V} {ds:List D} (wk:WOk X.K H θ μ) (r:Rp X.K H θ μ d v) (h:wlOf μ d=some ds):∃ a xs,v = .ref a∧H a=some (.lst xs)∧Rps X.K H θ μ ds xs:=by
 cases d with
 | lst l=>simp only [wlOf,Option.some.injEq] at h; subst h; obtain ⟨b,zs,e1,e2,_,e3⟩:=Xh r; exact ⟨b,zs,e1,e2,e3⟩
 | loc k =>
  obtain ⟨b,rfl,hb⟩:=Zc r
  simp only [wlOf] at h
  split at h
  ·rename_i l hl
   cases h
   obtain ⟨zs,e1,e2⟩:=wk.list hl hb
   exact ⟨b,zs,rfl,e1,e2⟩
  ·cases h
 | _=>simp [wlOf] at h
theorem cat_ok (m:Bool):OpR X (binaryOp .Add) (low2 X.K (wCat m)):=by
 intro pins s σ H x y v u Q I rx ry h
 obtain ⟨d,e,θ,μ,Qd,wk,rd,re,hw,f⟩:=h
 unfold wCat at hw
 split at hw
 ·rename_i as ha
  split at hw
  ·rename_i bs hb
   obtain ⟨a,xs,rfl,h1,r1⟩:=wl_inv wk rd ha
   obtain ⟨b,ys,rfl,h2,r2⟩:=wl_inv wk re hb
   have l1:=r1.length
   have l2:=r2.length
   exact op_cat pins s σ H _ _ v u Q I rx ry ⟨a,b,xs,ys,rfl,rfl,h1,h2,by rw [← l1,← l2,← Xv]; exact hw.1,fun p hp=>Yp wk f (r1.append r2) hw.2 hp⟩
  ·exact hw.elim
 ·exact hw.elim
end
end DW
end
section
set_option autoImplicit false
namespace DW
open PySem PySem.Spec PyProof.Rows L2
section
variable {X:Cx}
theorem Vl {K:PySem.W.Frag} {H:Hp} {θ:List Addr} {μ:Mem} {ds:List D} {d:D} {v:V} (wk:WOk K H θ μ) (r:Rp K H θ μ d v) (h:Wm μ d=some ds):∃ a xs,v = .ref a∧SqL K H a xs∧Rps K H θ μ ds xs:=by
 cases d with
 | lst es=>simp only [Wm,Yb,Option.some.injEq] at h; subst h; obtain ⟨a,xs,e,h1,_,h3⟩:=Xh r; exact ⟨a,xs,e,.of h1,h3⟩
 | ro es=>simp only [Wm,Yb,Option.some.injEq] at h; subst h; obtain ⟨a,xs,e,h1,h3⟩:=inv_ro r; exact ⟨a,xs,e,SqL_ro h1,h3⟩
 | loc n =>
  obtain ⟨a,e,h1⟩:=Zc r
  simp only [Wm,Yb] at h
  split at h
  ·rename_i es hn
   simp only [Option.some.injEq] at h; subst h
   obtain ⟨xs,h2,h3⟩:=wk.list hn h1
   exact ⟨a,xs,e,.of h2,h3⟩
  ·cases h
 | _=>simp [Wm,Yb] at h
theorem Yag {K:PySem.W.Frag} {H:Hp} {θ:List Addr} {μ:Mem}:∀ {ds:List D} {xs:List V} {ns:List Int},Rps K H θ μ ds xs→Vt ds=some ns→xs=ns.map V.int
 | [],xs,ns,r,h=>by
  cases r.nil_inv
  simp only [Vt,Option.some.injEq] at h
  subst h; rfl
 | d :: ds,xs,ns,r,h=>by
  obtain ⟨v,vr,rfl,h1,h2⟩:=r.cons_inv
  cases d with
  | int i =>
   simp only [Vt] at h
   cases q:Vt ds with
   | none=>rw [q] at h; cases h
   | some ms =>
    rw [q] at h
    simp only [Option.map_some,Option.some.injEq] at h
    subst h
    cases Zb h1
    rw [Yag h2 q]; rfl
  | _=>simp [Vt] at h
theorem bools_V {K:PySem.W.Frag} {H:Hp} {θ:List Addr} {μ:Mem}:∀ {ds:List D} {xs:List V} {b:Bool},Rps K H θ μ ds xs→allB ds=some b→∃ bs:List Bool,xs=bs.map V.bl∧bs.all id=b
 | [],xs,b,r,h=>by
  cases r.nil_inv
  simp only [allB,Option.some.injEq] at h
  subst h; exact ⟨[],rfl,rfl⟩
 | d :: ds,xs,b,r,h=>by
  obtain ⟨v,vr,rfl,h1,h2⟩:=r.cons_inv
  cases d with
  | bl c =>
   simp only [allB] at h
   cases q:allB ds with
   | none=>rw [q] at h; cases h
   | some ms =>
    rw [q] at h
    simp only [Option.map_some,Option.some.injEq] at h
    subst h
    cases Zi h1
    obtain ⟨bs,rfl,e⟩:=bools_V h2 q
    exact ⟨c :: bs,rfl,by simp [← e]⟩
  | _=>simp [allB] at h
theorem kept_iter {h h':Heap} {o:Obj} (hk:∀ b ob,b ∉ [h.objs.size]→(h.push o).get? b=some ob→h'.get? b=some ob):∀ b ob,h.get? b=some ob→h'.get? b=some ob:=fun b ob e =>
 hk b ob (fun hm=>by
  have:=List.mem_singleton.mp hm
  subst this
  exact Nat.lt_irrefl _ (Heap.lt_size e)) (Heap.get?_push_of_some _ e)
theorem call_allL (hc:X.calm=true):CallR X (.builtin "all") (fun xs H Q=>∃ p,∃ bs:List Bool,xs=[.ref p]∧SqL X.K H p (bs.map V.bl)∧Q (.bl (bs.all id)) H):=by
 intro pins s σ H xs us Q I r h
 obtain ⟨p,bs,rfl,hx,q⟩:=h
 obtain ⟨u,rfl,rx⟩:=vals1 r
 cases rx
 obtain ⟨its,rv,pl,hz⟩:=I.list hx
 have hlt:p < s.heap.objs.size:=by obtain ⟨o,n,e,_⟩:=pl; exact Heap.lt_size e
 have hlen:bs.length=its.length:=by have:=rv.length; simpa using this
 have hit:∀ (i:Nat) (v:Value),its.toArray[i]? = some v→v = .bool (bs.getD i true):=fun i v e=>by
  have e':its[i]? = some v:=by simpa using e
  have hi:i < bs.length:=by rw [hlen]; exact (List.getElem?_eq_some_iff.mp e').1
  obtain ⟨w',h1,h2⟩:=rv.get (i:=i) (x:=.bl (bs.getD i true)) (by simp [hi])
  rw [e'] at h1; cases h1; exact h2
 refine call_all_walk (wpAny_pyIter_list pl.isList ?_)
 refine ⟨s.heap.objs.size,_,_,_,_,_,fun i=>bs.getD i true,rfl,Walks.list (A:=X.A.in1) (I.ok.hd hc) _ p (Nat.ne_of_lt hlt) its.toArray,⟨⟨_,Heap.get?_push_size _ rfl,rfl,rfl⟩,pl.isList.push _⟩,fun i v s' Q' E' hP hQ=>?_,fun h' tk hk=>?_⟩
 ·rw [hit i v hP]; exact wpAny_truthy_bool hQ
 ·refine ⟨.bl (bs.all id),H,I.kept (kept_iter hk),?_,q⟩
  show Value.bool _=Value.bool _
  congr 1
  rw [List.size_toArray,← hlen,Bool.eq_iff_iff,List.all_eq_true,List.all_eq_true]
  constructor
  ·intro hh x hx
   obtain ⟨i,hi,rfl⟩:=List.mem_iff_getElem.mp hx
   have:=hh i (by simpa using hi)
   simpa [hi] using this
  ·intro hh i hi
   have hi':i < bs.length:=by simpa using hi
   have:=hh bs[i] (List.getElem_mem hi')
   simpa [hi'] using this
theorem Zg:∀ {ns:List Int} {its:List Value},Vals (ns.map V.int) its→∃ xs:Array (Int×Tok),its.toArray=intItems xs∧xs.toList.map (·.1)=ns
 | [],its,h=>by cases h; exact ⟨#[],by simp [intItems],rfl⟩
 | n :: ns,its,h=>by
  cases h with
  | cons r rr =>
   obtain ⟨t,rfl⟩:=r
   obtain ⟨xs,e1,e2⟩:=Zg rr
   refine ⟨((n,t) :: xs.toList).toArray,?_,by simp [e2]⟩
   have e1':=congrArg Array.toList e1
   simp only [intItems,Array.toList_map] at e1'
   apply Array.toList_inj.mp
   simp only [intItems,Array.toList_map]
   simpa using e1'
theorem Zaf (xs:Array (Int×Tok)):preSum (numAt xs) xs.size=(xs.toList.map (·.1)).sum:=by
 rw [preSum_eq,List.take_of_length_le (by simp)]
theorem call_sumL (hc:X.calm=true):CallR X (.builtin "sum") (fun xs H Q=>∃ p,∃ ns:List Int,xs=[.ref p]∧SqL X.K H p (ns.map V.int)∧Q (.int ns.sum) H):=by
 intro pins s σ H xs us Q I r h
 obtain ⟨p,ns,rfl,hx,q⟩:=h
 obtain ⟨u,rfl,rx⟩:=vals1 r
 cases rx
 obtain ⟨its,rv,pl,hz⟩:=I.list hx
 obtain ⟨zs,e1,e2⟩:=Zg rv
 have hl:=pl.isList
 rw [e1] at hl
 refine sum_intListG (I.ok.hd hc) hl fun h' tk t' hk=>⟨.int ns.sum,H,I.kept hk,⟨t',?_⟩,q⟩
 rw [Zaf,e2]
theorem call_sumT (hc:X.calm=true):CallR X (.builtin "sum") (fun xs H Q=>∃ p,∃ ns:List Int,xs=[.ref p]∧SqT X.K H p (ns.map V.int)∧Q (.int ns.sum) H):=by
 intro pins s σ H xs us Q I r h
 obtain ⟨p,ns,rfl,hx,q⟩:=h
 obtain ⟨u,rfl,rx⟩:=vals1 r
 cases rx
 obtain ⟨its,rv,pl,hz⟩:=I.tuple hx
 obtain ⟨zs,e1,e2⟩:=Zg rv
 have hl:s.heap.IsTuple p its.toArray:=pl
 rw [e1] at hl
 refine PySem.W.ktm_sumG (I.ok.hd hc) hl fun h' tk t' hk=>⟨.int ns.sum,H,I.kept hk,⟨t',?_⟩,q⟩
 rw [Zaf,e2]
theorem min_arg (xs:Array (Int×Tok)) (n:Int) (ns:List Int) (h:xs.toList.map (·.1)=n :: ns):numAt xs (argBest (fun i j=>decide (numAt xs i < numAt xs j)) (xs.size - 1))=ns.foldl min n:=by
 have key:∀ k,k < (n :: ns).length→numAt xs (argBest (fun i j=>decide (numAt xs i < numAt xs j)) k)=(ns.take k).foldl min n:=by
  intro k
  have at_:∀ i,numAt xs i=((n :: ns)[i]?).getD 0:=fun i=>by
   rw [← h]; simp [numAt]
  induction k with
  | zero=>intro _; simp [argBest,at_]
  | succ k ih =>
   intro hk
   have ih':=ih (by omega)
   have hk':k < ns.length:=by simpa using hk
   have e:ns.take (k + 1)=ns.take k ++ [ns[k]]:=by rw [List.take_succ_eq_append_getElem hk']
   rw [e,List.foldl_append]
   simp only [List.foldl_cons,List.foldl_nil]
   rw [← ih']
   simp only [argBest]
   have a1:numAt xs (k + 1)=ns[k]:=by rw [at_]; simp [hk']
   split
   ·rename_i hgt
    have hgt:=of_decide_eq_true hgt
    rw [a1] at hgt ⊢
    omega
   ·rename_i hgt
    have hgt:¬ (numAt xs (k + 1) < _):=fun z=>hgt (decide_eq_true z)
    rw [a1] at hgt
    omega
 have hs:xs.size=(n :: ns).length:=by rw [← h]; simp
 have:=key (xs.size - 1) (by rw [hs]; simp)
 rw [this,hs,List.take_of_length_le (by simp)]
theorem call_minL (hc:X.calm=true):CallR X (.builtin "min") (fun xs H Q=>∃ p,∃ n:Int,∃ ns:List Int,xs=[.ref p]∧SqL X.K H p ((n :: ns).map V.int)∧Q (.int (ns.foldl min n)) H):=by
 intro pins s σ H xs us Q I r h
 obtain ⟨p,n,ns,rfl,hx,q⟩:=h
 obtain ⟨u,rfl,rx⟩:=vals1 r
 cases rx
 obtain ⟨its,rv,pl,hz⟩:=I.list hx
 obtain ⟨zs,e1,e2⟩:=Zg rv
 have hl:=pl.isList
 rw [e1] at hl
 have hs:zs.size=(n :: ns).length:=by rw [← e2]; simp
 refine min_intList (I.ok.hd hc) hl (by rw [hs]; simp) fun v h' tk hv hk=>?_
 obtain ⟨t,rfl⟩:=intItems_at hv
 exact ⟨.int _,H,I.kept hk,⟨t,by rw [min_arg zs n ns e2]⟩,q⟩
theorem max_arg (xs:Array (Int×Tok)) (n:Int) (ns:List Int) (h:xs.toList.map (·.1)=n :: ns):numAt xs (argBest (fun i j=>decide (numAt xs i > numAt xs j)) (xs.size - 1))=ns.foldl max n:=by
 have key:∀ k,k < (n :: ns).length→numAt xs (argBest (fun i j=>decide (numAt xs i > numAt xs j)) k)=(ns.take k).foldl max n:=by
  intro k
  have at_:∀ i,numAt xs i=((n :: ns)[i]?).getD 0:=fun i=>by
   rw [← h]; simp [numAt]
  induction k with
  | zero=>intro _; simp [argBest,at_]
  | succ k ih =>
   intro hk
   have ih':=ih (by omega)
   have hk':k < ns.length:=by simpa using hk
   have e:ns.take (k + 1)=ns.take k ++ [ns[k]]:=by rw [List.take_succ_eq_append_getElem hk']
   rw [e,List.foldl_append]
   simp only [List.foldl_cons,List.foldl_nil]
   rw [← ih']
   simp only [argBest]
   have a1:numAt xs (k + 1)=ns[k]:=by rw [at_]; simp [hk']
   split
   ·rename_i hgt
    have hgt:=of_decide_eq_true hgt
    rw [a1] at hgt ⊢
    omega
   ·rename_i hgt
    have hgt:¬ (numAt xs (k + 1) > _):=fun z=>hgt (decide_eq_true z)
    rw [a1] at hgt
    omega
 have hs:xs.size=(n :: ns).length:=by rw [← h]; simp
 have:=key (xs.size - 1) (by rw [hs]; simp)
 rw [this,hs,List.take_of_length_le (by simp)]
theorem call_maxL (hc:X.calm=true):CallR X (.builtin "max") (fun xs H Q=>∃ p,∃ n:Int,∃ ns:List Int,xs=[.ref p]∧SqL X.K H p ((n :: ns).map V.int)∧Q (.int (ns.foldl max n)) H):=by
 intro pins s σ H xs us Q I r h
 obtain ⟨p,n,ns,rfl,hx,q⟩:=h
 obtain ⟨u,rfl,rx⟩:=vals1 r
 cases rx
 obtain ⟨its,rv,pl,hz⟩:=I.list hx
 obtain ⟨zs,e1,e2⟩:=Zg rv
 have hl:=pl.isList
 rw [e1] at hl
 have hs:zs.size=(n :: ns).length:=by rw [← e2]; simp
 refine max_intList (I.ok.hd hc) hl (by rw [hs]; simp) fun v h' tk hv hk=>?_
 obtain ⟨t,rfl⟩:=intItems_at hv
 exact ⟨.int _,H,I.kept hk,⟨t,by rw [max_arg zs n ns e2]⟩,q⟩
end
end DW
end
section
set_option autoImplicit false
namespace DW
open PySem PySem.Spec PyProof.Rows L2
section
variable {X:Cx}
end
end DW
end
section
set_option autoImplicit false
namespace DW
open PySem PySem.W PyProof.Rows
noncomputable def krun {α:Type} (lt:Nat→Nat→Bool):KasT α→α
 | .ret a=>a
 | .ask i j k=>krun lt (k (lt i j))
theorem Yk {α β:Type} (lt:Nat→Nat→Bool) (f:α→KasT β):∀ t:KasT α,krun lt (t.bind f)=krun lt (f (krun lt t))
 | .ret a=>rfl
 | .ask i j k=>Yk lt f (k (lt i j))
noncomputable abbrev at' (p:Array Nat) (k:Nat):Nat:=p.getD k 0
theorem Wa9 (p:Array Nat) (k:Nat):at' p k=p[k]?.getD 0:=by simp [at']
theorem Ya2 {p:Array Nat} {i j:Nat} (hj:j≤p.size) (k:Nat):at' (kas_rev p i j) k=if i≤k∧k < j then at' p (i + j - 1 - k) else at' p k:=by
 rw [Wa9,kas_rev,getElem?_mirror_all hj]
 split <;> rw [Wa9]
theorem at_bub {p:Array Nat} {s d:Nat} (hs:s < p.size) (hd:d≤s) (k:Nat):at' (bubble p s d) k=if k=s - d then at' p s else if s - d < k∧k≤s then at' p (k - 1) else at' p k:=by
 rw [Wa9,getElem?_bubble hs d hd,Wa9,Wa9,Wa9]
 by_cases h1:k=s - d
 ·rw [if_pos h1,if_pos h1]
 ·rw [if_neg h1,if_neg h1]
  by_cases h2:s - d < k∧k≤s
  ·rw [if_pos h2,if_pos h2]
  ·rw [if_neg h2,if_neg h2]
theorem Y5 (p:Array Nat) (i j:Nat):(kas_rev p i j).size=p.size:=mirror_size _ _ _ _
theorem Zj (p:Array Nat) (i j:Nat):(kas_rev p i j).Perm p:=mirror_perm _ _ _ _
section
variable {lt:Nat→Nat→Bool} (hA:∀ a b,lt a b=true→lt b a=false) (hT:∀ a b c,lt b a=false→lt c b=false→lt c a=false)
noncomputable def Up (lt:Nat→Nat→Bool) (p:Array Nat) (m:Nat):Prop:=∀ i,i + 1 < m→lt (at' p (i + 1)) (at' p i)=false
noncomputable def Down (lt:Nat→Nat→Bool) (p:Array Nat) (m:Nat):Prop:=∀ i,i + 1 < m→lt (at' p i) (at' p (i + 1))=false
noncomputable def Tie (lt:Nat→Nat→Bool) (a b:Nat):Prop:=lt a b=false∧lt b a=false
include hT in
theorem Up.le {p:Array Nat} {m:Nat} (h:Up lt p m) (hirr:∀ a,lt a a=false):∀ (d i:Nat),i + d < m→lt (at' p (i + d)) (at' p i)=false
 | 0,i,_=>hirr _
 | d + 1,i,hd=>hT _ _ _ (Up.le h hirr d i (by omega)) (h (i + d) (by omega))
include hA in
theorem irr_of (a:Nat):lt a a=false:=by
 cases h:lt a a with
 | false=>rfl
 | true=>rw [← h]; exact hA a a h
include hT in
theorem Tie.trans {a b c:Nat} (h:Tie lt a b) (k:Tie lt b c):Tie lt a c:=⟨hT c b a k.1 h.1,hT a b c h.2 k.2⟩
theorem Tie.symm {a b:Nat} (h:Tie lt a b):Tie lt b a:=⟨h.2,h.1⟩
theorem Zba {p:Array Nat}:∀ (f n:Nat),1≤n→n≤krun lt (kas_asc p f n)∧krun lt (kas_asc p f n)≤n + f∧(∀ i,n≤i→i < krun lt (kas_asc p f n)→lt (at' p i) (at' p (i - 1))=false) ∧
  (krun lt (kas_asc p f n) < n + f→lt (at' p (krun lt (kas_asc p f n))) (at' p (krun lt (kas_asc p f n) - 1))=true)
 | 0,n,_=>⟨Nat.le_refl _,Nat.le_refl _,fun i h1 h2=>by simp [kas_asc,krun] at h2; omega,fun h=>by simp [kas_asc,krun] at h⟩
 | f + 1,n,h1=>by
  cases c:lt (at' p n) (at' p (n - 1)) with
  | true =>
   have e:krun lt (kas_asc p (f + 1) n)=n:=by
    show krun lt (if lt (at' p n) (at' p (n - 1))=true then .ret n else kas_asc p f (n + 1))=n
    rw [c]; rfl
   rw [e]
   exact ⟨Nat.le_refl _,by omega,fun i h1 h2=>by omega,fun _=>c⟩
  | false =>
   have e:krun lt (kas_asc p (f + 1) n)=krun lt (kas_asc p f (n + 1)):=by
    show krun lt (if lt (at' p n) (at' p (n - 1))=true then .ret n else kas_asc p f (n + 1))=_
    rw [c]; rfl
   rw [e]
   obtain ⟨a1,a2,a3,a4⟩:=Zba (p:=p) f (n + 1) (by omega)
   refine ⟨by omega,by omega,fun i h2 h3=>?_,fun h=>a4 (by omega)⟩
   by_cases q:i=n
   ·subst q; exact c
   ·exact a3 i (by omega) h3
structure DescOk (lt:Nat→Nat→Bool) (p0:Array Nat) (top:Nat) (r:Array Nat×Nat×Nat):Prop where
 perm:r.1.Perm p0
 size:r.1.size=p0.size
 le:r.2.1≤top
 pos:r.2.2 + 1≤r.2.1
 down:Down lt r.1 r.2.1
 tie:∀ i,r.2.1 - (r.2.2 + 1)≤i→i < r.2.1→Tie lt (at' r.1 i) (at' r.1 (r.2.1 - 1))
include hT in
theorem Za5 {p:Array Nat} {n q:Nat} (hn:n≤p.size) (hq:q + 1≤n) (ht:∀ i,n - (q + 1)≤i→i < n→Tie lt (at' p i) (at' p (n - 1))) (hirr:∀ a,lt a a=false) (k:Nat) :
  Tie lt (at' (kas_rev p (n - (q + 1)) n) k) (at' p k):=by
 rw [Ya2 hn]
 split
 ·rename_i h
  exact Tie.trans hT (ht _ (by omega) (by omega)) (Tie.symm (ht k h.1 h.2))
 ·exact ⟨hirr _,hirr _⟩
include hT in
theorem Down.like {p p':Array Nat} {n:Nat} (h:Down lt p n) (k:∀ i,i < n→Tie lt (at' p' i) (at' p i)):Down lt p' n:=fun i hi =>
 hT _ _ _ (hT _ _ _ (k (i + 1) hi).2 (h i hi)) (k i (by omega)).1
include hA hT in
theorem V6 {p0:Array Nat} {top:Nat} (htop:top≤p0.size):∀ (f:Nat) (p:Array Nat) (n q:Nat),n + f=top→DescOk lt p0 top (p,n,q)→DescOk lt p0 top (krun lt (kas_desc f p n q))
 | 0,p,n,q,_,h=>h
 | f + 1,p,n,q,hn,h=>by
  have hirr:=irr_of hA
  obtain ⟨h1,h2,h3,h4,h5,h6⟩:=h
  simp only at h1 h2 h3 h4 h5 h6
  have hsz:n≤p.size:=by omega
  cases c:lt (at' p n) (at' p (n - 1)) with
  | true =>
   have e:krun lt (kas_desc (f + 1) p n q)=krun lt (if q > 0 then kas_desc f (kas_rev p (n - (q + 1)) n) (n + 1) 0 else kas_desc f p (n + 1) 0):=by
    show krun lt (if lt (at' p n) (at' p (n - 1))=true then _ else _)=_
    rw [c]; rfl
   rw [e]
   have dn:∀ p':Array Nat,p'.Perm p0→p'.size=p0.size→(∀ i,Tie lt (at' p' i) (at' p i))→at' p' n=at' p n→DescOk lt p0 top (p',n + 1,0):=fun p' q1 q2 q3 q4=>by
    refine ⟨q1,q2,by simp; omega,by simp,fun i hi=>?_,fun i a1 a2=>?_⟩
    ·simp only at hi ⊢
     by_cases z:i + 1 < n
     ·exact Down.like hT h5 (fun i _=>q3 i) i z
     ·have z1:i + 1=n:=by omega
      have z2:i=n - 1:=by omega
      rw [z1,q4,z2]
      exact hT _ _ _ (hA _ _ c) (q3 (n - 1)).1
    ·simp only at a1 a2 ⊢
     have:i=n:=by omega
     subst this
     exact ⟨hirr _,hirr _⟩
   by_cases hq:q > 0
   ·rw [if_pos hq]
    refine V6 htop f _ (n + 1) 0 (by omega) (dn _ ((Zj _ _ _).trans h1) (by rw [Y5]; exact h2) (Za5 hT hsz h4 h6 hirr) ?_)
    rw [Ya2 hsz,if_neg (by omega)]
   ·rw [if_neg hq]
    exact V6 htop f _ (n + 1) 0 (by omega) (dn _ h1 h2 (fun i=>⟨hirr _,hirr _⟩) rfl)
  | false =>
   cases d:lt (at' p (n - 1)) (at' p n) with
   | true =>
    have e:krun lt (kas_desc (f + 1) p n q)=(p,n,q):=by
     show krun lt (if lt (at' p n) (at' p (n - 1))=true then _ else _)=_
     rw [c]
     show krun lt (if lt (at' p (n - 1)) (at' p n)=true then _ else _)=_
     rw [d]; rfl
    rw [e]
    exact ⟨h1,h2,h3,h4,h5,h6⟩
   | false =>
    have e:krun lt (kas_desc (f + 1) p n q)=krun lt (kas_desc f p (n + 1) (q + 1)):=by
     show krun lt (if lt (at' p n) (at' p (n - 1))=true then _ else _)=_
     rw [c]
     show krun lt (if lt (at' p (n - 1)) (at' p n)=true then _ else _)=_
     rw [d]; rfl
    rw [e]
    refine V6 htop f _ (n + 1) (q + 1) (by omega) ⟨h1,h2,by simp; omega,by simp; omega,fun i hi=>?_,fun i a1 a2=>?_⟩
    ·simp only at hi ⊢
     by_cases z:i + 1 < n
     ·exact h5 i z
     ·have z1:i + 1=n:=by omega
      have z2:i=n - 1:=by omega
      rw [z1,z2]; exact d
    ·simp only at a1 a2 ⊢
     by_cases z:i=n
     ·subst z; exact ⟨hirr _,hirr _⟩
     ·exact Tie.trans hT (h6 i (by omega) (by omega)) ⟨d,c⟩
structure CountOk (lt:Nat→Nat→Bool) (p0:Array Nat) (n:Nat) (r:Nat×Array Nat):Prop where
 perm:r.2.Perm p0
 size:r.2.size=p0.size
 le:r.1≤n
 pos:1≤r.1
 up:Up lt r.2 r.1
theorem Zat {p0 p:Array Nat} {n nrem:Nat} (h1:1≤n) (hn:n≤nrem) (hz:nrem≤p0.size) (hp:p.Perm p0) (hs:p.size=p0.size) (hd:Down lt p n):CountOk lt p0 nrem (krun lt (kas_tail3 n nrem p)):=by
 unfold kas_tail3
 rw [Yk]
 obtain ⟨a1,a2,a3,_⟩:=Zba (lt:=lt) (p:=kas_rev p 0 n) (nrem - n) n h1
 refine ⟨(Zj _ _ _).trans hp,by rw [show (krun lt (KasT.ret (krun lt (kas_asc (kas_rev p 0 n) (nrem - n) n),kas_rev p 0 n))).2=kas_rev p 0 n from rfl,Y5]; exact hs,by show krun lt _≤_; omega,by show 1≤krun lt _; omega,fun i hi=>?_⟩
 replace hi:i + 1 < krun lt (kas_asc (kas_rev p 0 n) (nrem - n) n):=hi
 show lt (at' (kas_rev p 0 n) (i + 1)) (at' (kas_rev p 0 n) i)=false
 by_cases z:n≤i + 1
 ·exact a3 (i + 1) z hi
 ·rw [Ya2 (by omega),Ya2 (by omega),if_pos (by omega),if_pos (by omega)]
  have:=hd (n - 1 - (i + 1)) (by omega)
  have e1:n - 1 - (i + 1) + 1=0 + n - 1 - i:=by omega
  have e2:n - 1 - (i + 1)=0 + n - 1 - (i + 1):=by omega
  rw [e1,e2] at this
  exact this
include hA hT in
theorem V2 {p0 p:Array Nat} {n nrem:Nat} (hn:n + 1≤nrem) (hz:nrem≤p0.size) (hp:p.Perm p0) (hs:p.size=p0.size) (hd:Down lt p (n + 1)):CountOk lt p0 nrem (krun lt (kas_descPart n nrem p)):=by
 unfold kas_descPart
 rw [Yk]
 have hirr:=irr_of hA
 have D:=V6 hA hT hz (nrem - (n + 1)) p (n + 1) 0 (by omega) ⟨hp,hs,by simp; omega,by simp,hd,fun i a1 a2=>by
  simp only at a1 a2 ⊢
  have:i=n:=by omega
  subst this; exact ⟨hirr _,hirr _⟩⟩
 generalize krun lt (kas_desc (nrem - (n + 1)) p (n + 1) 0)=r at D
 obtain ⟨p2,m,q⟩:=r
 obtain ⟨h1,h2,h3,h4,h5,h6⟩:=D
 simp only at h1 h2 h3 h4 h5 h6 ⊢
 have hsz:m≤p2.size:=by omega
 by_cases hq:q > 0
 ·rw [if_pos hq]
  exact Zat (by omega) h3 hz ((Zj _ _ _).trans h1) (by rw [Y5]; exact h2) (Down.like hT h5 fun i _=>Za5 hT hsz h4 h6 hirr i)
 ·rw [if_neg hq]
  exact Zat (by omega) h3 hz h1 h2 h5
include hA hT in
theorem count_run {p0:Array Nat} {nrem:Nat} (h1:1≤nrem) (hz:nrem≤p0.size):CountOk lt p0 nrem (krun lt (kas_count nrem p0)):=by
 unfold kas_count
 rw [Yk]
 have hirr:=irr_of hA
 obtain ⟨a1,a2,a3,a4⟩:=Zba (lt:=lt) (p:=p0) (nrem - 1) 1 (Nat.le_refl _)
 generalize krun lt (kas_asc p0 (nrem - 1) 1)=n at a1 a2 a3 a4
 have up:Up lt p0 n:=fun i hi=>by simpa using a3 (i + 1) (by omega) hi
 by_cases e:(n == nrem)=true
 ·rw [if_pos e]
  exact ⟨.refl _,rfl,by show n≤_; omega,a1,up⟩
 ·rw [if_neg e]
  have e':n≠nrem:=by simpa using e
  have ht:=a4 (by omega)
  by_cases hn:n > 1
  ·rw [if_pos hn]
   cases c:lt (at' p0 0) (at' p0 (n - 1)) with
   | true =>
    show CountOk lt p0 nrem (krun lt (if lt (at' p0 0) (at' p0 (n - 1))=true then _ else _))
    rw [c]
    exact ⟨.refl _,rfl,by show n≤_; omega,a1,up⟩
   | false =>
    show CountOk lt p0 nrem (krun lt (if lt (at' p0 0) (at' p0 (n - 1))=true then _ else _))
    rw [c]
    have hsz:n≤p0.size:=by omega
    have le:=fun d i h=>Up.le hT up hirr d i h
    have tie:∀ i,n - (n - 1 + 1)≤i→i < n→Tie lt (at' p0 i) (at' p0 (n - 1)):=fun i _ hi=>by
     have b1:=le (n - 1 - i) i (by omega)
     have b2:=le i 0 (by omega)
     rw [show i + (n - 1 - i)=n - 1 by omega] at b1
     rw [show 0 + i=i by omega] at b2
     exact ⟨hT _ _ _ c b2,b1⟩
    have r0:=fun i=>Za5 hT hsz (q:=n - 1) (by omega) tie hirr i
    rw [show n - (n - 1 + 1)=0 by omega] at r0
    refine V2 hA hT (by omega) hz (Zj _ _ _) (Y5 _ _ _) fun i hi=>?_
    by_cases z:i + 1=n
    ·have z2:at' (kas_rev p0 0 n) n=at' p0 n:=by rw [Ya2 hsz,if_neg (by omega)]
     have z3:i=n - 1:=by omega
     rw [z,z2,z3]
     exact hT _ _ _ (hA _ _ ht) (r0 (n - 1)).1
    ·have t1:=Tie.trans hT (Tie.trans hT (r0 i) (tie i (by omega) (by omega))) (Tie.symm (Tie.trans hT (r0 (i + 1)) (tie (i + 1) (by omega) (by omega))))
     exact t1.1
  ·rw [if_neg hn]
   have n1:n=1:=by omega
   subst n1
   refine V2 hA hT (by omega) hz (.refl _) rfl fun i hi=>?_
   have:i=0:=by omega
   subst this
   exact hA _ _ ht
include hA hT in
theorem Y8 {p:Array Nat} {k:Nat} (up:Up lt p k):∀ (f l r:Nat),l≤r→r≤k→r - l≤f→(∀ i,i < l→lt (at' p k) (at' p i)=false)→(∀ i,r≤i→i < k→lt (at' p k) (at' p i)=true) →
  krun lt (kas_place p k f l r)≤k∧(∀ i,i < krun lt (kas_place p k f l r)→lt (at' p k) (at' p i)=false)∧∀ i,krun lt (kas_place p k f l r)≤i→i < k→lt (at' p k) (at' p i)=true
 | 0,l,r,h1,h2,h3,h4,h5=>by
  have:l=r:=by omega
  subst this
  exact ⟨h2,h4,h5⟩
 | f + 1,l,r,h1,h2,h3,h4,h5=>by
  have hirr:=irr_of hA
  have le:=fun d i h=>Up.le hT up hirr d i h
  by_cases z:l ≥ r
  ·have:l=r:=by omega
   subst this
   unfold kas_place
   rw [if_pos z]
   exact ⟨h2,h4,h5⟩
  ·have e:krun lt (kas_place p k (f + 1) l r)=krun lt (if lt (at' p k) (at' p ((l + r) / 2))=true then kas_place p k f l ((l + r) / 2) else kas_place p k f ((l + r) / 2 + 1) r):=by
    rw [kas_place,if_neg z]; rfl
   rw [e]
   generalize hm:(l + r) / 2=m
   have m1:l≤m:=by omega
   have m2:m < r:=by omega
   cases c:lt (at' p k) (at' p m) with
   | true =>
    rw [if_pos rfl]
    refine Y8 up f l m m1 (by omega) (by omega) h4 fun i b1 b2=>?_
    cases q:lt (at' p k) (at' p i) with
    | true=>rfl
    | false =>
     have b3:=le (i - m) m (by omega)
     rw [show m + (i - m)=i by omega] at b3
     have:=hT _ _ _ b3 q
     rw [c] at this; cases this
   | false =>
    rw [if_neg (by simp)]
    refine Y8 up f (m + 1) r (by omega) h2 (by omega) (fun i b1=>?_) h5
    have b3:=le (m - i) i (by omega)
    rw [show i + (m - i)=m by omega] at b3
    exact hT _ _ _ b3 c
include hA hT in
theorem bin_run {p0:Array Nat} {n:Nat} (hn:n≤p0.size):∀ (f:Nat) (p:Array Nat) (k:Nat),k + f=n→p.Perm p0→p.size=p0.size→Up lt p k→(krun lt (kas_bin f p k)).Perm p0∧Up lt (krun lt (kas_bin f p k)) n
 | 0,p,k,h,h1,h2,h3=>by
  have:k=n:=by omega
  subst this
  exact ⟨h1,h3⟩
 | f + 1,p,k,h,h1,h2,h3=>by
  have e:krun lt (kas_bin (f + 1) p k)=krun lt (kas_bin f (bubble p k (k - krun lt (kas_place p k k 0 k))) (k + 1)):=by
   show krun lt (KasT.bind _ _)=_
   rw [Yk]
  rw [e]
  obtain ⟨b1,b2,b3⟩:=Y8 hA hT h3 k 0 k (Nat.zero_le _) (Nat.le_refl _) (by omega) (fun i hi=>by omega) (fun i x y=>by omega)
  generalize krun lt (kas_place p k k 0 k)=t at b1 b2 b3
  refine bin_run hn f _ (k + 1) (by omega) ((bubble_perm _ _ _).trans h1) ((bubble_size _ _ _).trans h2) fun i hi=>?_
  have hk:k < p.size:=by omega
  rw [at_bub hk (by omega),at_bub hk (by omega),show k - (k - t)=t by omega]
  by_cases z1:i + 1=t
  ·rw [if_pos z1,if_neg (by omega),if_neg (by omega)]
   exact b2 i (by omega)
  ·rw [if_neg z1]
   by_cases z2:i=t
   ·subst z2
    rw [if_pos rfl,if_pos (by omega)]
    exact hA _ _ (b3 i (Nat.le_refl _) (by omega))
   ·rw [if_neg z2]
    by_cases z3:t < i
    ·rw [if_pos (by omega),if_pos (by omega)]
     have:=h3 (i - 1) (by omega)
     rw [show i - 1 + 1=i by omega] at this
     exact this
    ·rw [if_neg (by omega),if_neg (by omega)]
     exact h3 i (by omega)
include hA hT in
theorem sort_run {n:Nat} (h1:1≤n):(krun lt (kas_sort n)).Perm (List.toArray (List.range n))∧Up lt (krun lt (kas_sort n)) n:=by
 unfold kas_sort
 rw [Yk]
 have C:=count_run (lt:=lt) hA hT (p0:=List.toArray (List.range n)) h1 (by simp)
 generalize krun lt (kas_count n (List.toArray (List.range n)))=r at C
 by_cases z:r.1 < n
 ·rw [if_pos z]
  have:max r.1 1=r.1:=by have:=C.pos; omega
  rw [this]
  exact bin_run hA hT (by simp) (n - r.1) r.2 r.1 (by omega) C.perm C.size C.up
 ·rw [if_neg z]
  have:r.1=n:=by have:=C.le; omega
  exact ⟨C.perm,this ▸ C.up⟩
end
noncomputable def Asks {α:Type} (n:Nat) (R:α→Prop):KasT α→Prop
 | .ret a=>R a
 | .ask i j k=>i < n∧j < n∧∀ b,Asks n R (k b)
theorem Asks.bind {α β:Type} {n:Nat} {R:α→Prop} {R':β→Prop} {f:α→KasT β}:∀ {t:KasT α},Asks n R t→(∀ a,R a→Asks n R' (f a))→Asks n R' (t.bind f)
 | .ret a,h,k=>k a h
 | .ask i j t,h,k=>⟨h.1,h.2.1,fun b=>Asks.bind (h.2.2 b) k⟩
noncomputable def Bel (n:Nat) (p:Array Nat):Prop:=0 < n∧∀ x∈p,x < n
theorem Bel.at {n:Nat} {p:Array Nat} (h:Bel n p) (k:Nat):at' p k < n:=by
 rw [Wa9]
 cases e:p[k]? with
 | none=>exact h.1
 | some x=>exact h.2 x (Array.mem_of_getElem? e)
theorem Bel.perm {n:Nat} {p q:Array Nat} (h:Bel n p) (k:q.Perm p):Bel n q:=⟨h.1,fun x hx=>h.2 x (k.mem_iff.mp hx)⟩
theorem Xap {n:Nat} {p:Array Nat} (h:Bel n p):∀ (f m:Nat),Asks n (fun _=>True) (kas_asc p f m)
 | 0,m=>trivial
 | f + 1,m=>⟨h.at _,h.at _,fun b=>by
  cases b with
  | true=>exact trivial
  | false=>exact Xap h f (m + 1)⟩
theorem Yw {n:Nat}:∀ (f:Nat) (p:Array Nat) (m q:Nat),Bel n p→Asks n (fun r=>Bel n r.1) (kas_desc f p m q)
 | 0,p,m,q,h=>h
 | f + 1,p,m,q,h=>⟨h.at _,h.at _,fun b=>by
  cases b with
  | true =>
   show Asks n _ (if q > 0 then kas_desc f (kas_rev p (m - (q + 1)) m) (m + 1) 0 else kas_desc f p (m + 1) 0)
   split
   ·exact Yw f _ _ _ (h.perm (Zj _ _ _))
   ·exact Yw f _ _ _ h
  | false=>exact ⟨h.at _,h.at _,fun d=>by
    cases d with
    | true=>exact h
    | false=>exact Yw f p (m + 1) (q + 1) h⟩⟩
theorem Yae {n m nrem:Nat} {p:Array Nat} (h:Bel n p):Asks n (fun r=>Bel n r.2) (kas_tail3 m nrem p) :=
 Asks.bind (Xap (h.perm (Zj p 0 m)) _ _) fun _ _=>h.perm (Zj p 0 m)
theorem Xw {n m nrem:Nat} {p:Array Nat} (h:Bel n p):Asks n (fun r=>Bel n r.2) (kas_descPart m nrem p) :=
 Asks.bind (Yw _ p _ 0 h) fun r hr=>by
  split
  ·exact Yae (hr.perm (Zj _ _ _))
  ·exact Yae hr
theorem Wag {n nrem:Nat} {p:Array Nat} (h:Bel n p):Asks n (fun r=>Bel n r.2) (kas_count nrem p) :=
 Asks.bind (Xap h _ _) fun m _=>by
  split
  ·exact h
  ·split
   ·refine ⟨h.at _,h.at _,fun b=>?_⟩
    cases b with
    | true=>exact h
    | false=>exact Xw (h.perm (Zj _ _ _))
   ·exact Xw h
theorem Wy {n:Nat} {p:Array Nat} {k:Nat} (h:Bel n p):∀ (f l r:Nat),Asks n (fun _=>True) (kas_place p k f l r)
 | 0,l,r=>trivial
 | f + 1,l,r=>by
  unfold kas_place
  split
  ·trivial
  ·refine ⟨h.at _,h.at _,fun b=>?_⟩
   cases b with
   | true=>exact Wy h f _ _
   | false=>exact Wy h f _ _
theorem bin_asks {n:Nat}:∀ (f:Nat) (p:Array Nat) (k:Nat),Bel n p→Asks n (fun _=>True) (kas_bin f p k)
 | 0,p,k,_=>trivial
 | f + 1,p,k,h=>Asks.bind (Wy h _ _ _) fun l _=>bin_asks f _ _ (h.perm (bubble_perm _ _ _))
theorem sort_asks {n:Nat} (hn:0 < n):Asks n (fun _=>True) (kas_sort n) :=
 Asks.bind (Wag ⟨hn,fun x hx=>by simpa using hx⟩) fun r hr=>by
  split
  ·exact bin_asks _ _ _ hr
  ·trivial
end DW
end
section
set_option autoImplicit false
set_option maxHeartbeats 4000000
namespace DW
open PySem PySem.W PySem.Calls PyProof.Rows
theorem Xaa {α:Type} {cmp:Nat→Nat→(Bool→Shared→Prop)→Shared→Prop} {lt:Nat→Nat→Bool} {n:Nat} {s:Shared} (hc:∀ i j (C:Bool→Shared→Prop),i < n→j < n→C (lt i j) s→cmp i j C s) {R:α→Prop} {Q:α→Shared→Prop} :
  ∀ (t:KasT α),Asks n R t→Q (krun lt t) s→t.kasWp cmp Q s
 | .ret a,_,h=>h
 | .ask i j k,a,h=>hc i j _ a.1 a.2.1 (Xaa hc (k (lt i j)) (a.2.2 _) h)
section
variable {prog:Program} {w:World} {A:Around} {E:Value→Shared→Prop} {s:Shared} {vs:List Value} {lt:Nat→Nat→Bool}
noncomputable def Comp (prog:Program) (w:World) (A:Around) (h:Heap) (vs:List Value) (lt:Nat→Nat→Bool):Prop :=
 2≤vs.length→∀ s':Shared,(∀ b o,h.get? b=some o→s'.heap.get? b=some o)→∃ κ,(∀ R:SortKind→Shared→Prop,R κ s'→wpAny (model prog w) A (keyKind' vs.toArray) R (fun _ _=>False) s') ∧
  ∀ i j (C:Bool→Shared→Prop),i < vs.length→j < vs.length→C (lt i j) s'→kas_ask prog w A κ vs i j C s'
noncomputable def X8 (vs:List Value) (p:Array Nat):List Value:=p.toList.map fun i=>vs.getD i Value.none
theorem out_range (vs:List Value):X8 vs (List.toArray (List.range vs.length))=vs:=by
 apply List.ext_getElem?
 intro i
 unfold X8
 by_cases h:i < vs.length
 ·simp [h]
 ·simp [Nat.le_of_not_lt h,h]
noncomputable def SortOk (lt:Nat→Nat→Bool) (n:Nat):Prop:=n < 64∨(n < 300∧(krun lt (kas_count n (List.toArray (List.range n)))).1=n)
theorem SortOk.lt300 {lt:Nat→Nat→Bool} {n:Nat} (h:SortOk lt n):n < 300:=by rcases h with h | h <;> omega
theorem minRun_ok:∀ n,n < 300→64≤n→minRun' n n 0≤n:=by
 have h:∀ n,n < 300→(decide (64≤n) && !decide (minRun' n n 0≤n))=false:=by decide +kernel
 intro n h1 h2
 have:=h n h1
 rw [decide_eq_true h2,Bool.true_and] at this
 simpa using this
theorem runsF {κ:SortKind} {it:Array Keyed} {n:Nat} {Q:Unit→SortSt→Shared→Prop} {G:Array Nat→Shared→Prop} (h2:2≤n) (h3:n < 300) (h64:64≤n)
  (hG:∀ p' st' s',p'.size=n→arrOf st'=p'.map (kas_item it)→failedOf st'=none→G p' s'→Q () st' s') (h:(kas_count n (List.toArray (List.range n))).kasWp (kas_cmp prog w A κ it) (fun r s'=>r.1=n∧G r.2 s') s) :
  kasC (model prog w) A E sortRuns' Q (kas_st κ it (List.toArray (List.range n))) s:=by
 obtain ⟨r,rfl⟩:∃ r,n=r + 2:=⟨n - 2,by omega⟩
 have hrs:(List.toArray (List.range (r + 2))).size=r + 2:=by simp
 rw [sortRuns'_eq]
 refine kasC_bind (kasC_get ?_)
 dsimp only
 have hsz:(arrOf (kas_st κ it (List.toArray (List.range (r + 2))))).size=r + 2:=by
  show ((List.toArray (List.range (r + 2))).map (kas_item it)).size=_
  rw [Array.size_map,hrs]
 have hmr:=minRun_ok (r + 2) h3 h64
 simp only [hsz]
 refine kasC_bind (kasC_range ?_)
 show kasC _ _ _ (forIn (0 :: 1 :: List.range' 2 r) _ _) _ _ _
 refine kasC_cons ?_
 dsimp only
 rw [if_neg (by omega)]
 simp only [Nat.sub_zero,Nat.zero_add]
 refine kasC_bind (kas_count_ (by omega) (by rw [hrs]; exact Nat.le_refl _) (fun m p' s' hm1 hm2 hp hg=>?_) h)
 have hps:p'.size=r + 2:=hp.trans hrs
 dsimp only
 obtain ⟨hm,hg'⟩:=hg
 have hm:m=r + 2:=hm
 subst hm
 rw [if_neg (by omega)]
 refine kasC_bind (kasC_get ?_)
 rw [show (pendingOf (kas_st κ it p')).back? = none from rfl]
 dsimp only
 refine kasC_bind (kasC_modify (kasC_pure ?_))
 show kasC _ _ _ (forIn (1 :: List.range' 2 r) _ _) _ _ _
 refine kasC_cons ?_
 dsimp only
 rw [if_pos (Nat.le_refl _)]
 refine kasC_pure ?_
 dsimp only
 refine kasC_bind (kasC_range ?_)
 show kasC _ _ _ (forIn (0 :: 1 :: List.range' 2 r) _ _) _ _ _
 refine kasC_cons ?_
 refine kasC_bind (kasC_get ?_)
 rw [if_pos (show (pendingOf (setPending (kas_st κ it p') ((pendingOf (kas_st κ it p')).push (0,r + 2,0)))).size≤1 from Nat.le_refl 1)]
 refine kasC_pure ?_
 dsimp only
 exact kasC_pure (hG p' _ _ hps rfl rfl hg')
theorem kat_any {κ:SortKind} {Q:SortSt→Shared→Prop} {G:Array Nat→Shared→Prop} (h2:2≤vs.length) (h64:SortOk lt vs.length)
  (hG:∀ p st' s',p.size=vs.length→arrOf st'=p.map (kas_item (vs.toArray.zip vs.toArray))→failedOf st'=none→G p s'→Q st' s')
  (hc:∀ i j (C:Bool→Shared→Prop),i < vs.length→j < vs.length→C (lt i j) s→kas_ask prog w A κ vs i j C s) (g:G (krun lt (kas_sort vs.length)) s) :
  wpAny (model prog w) A ((sortRuns').run (SortSt.mk' κ (vs.toArray.zip vs.toArray) #[] 7 none)) (fun r s'=>Q r.2 s') E s:=by
 by_cases h:vs.length < 64
 ·exact kat_run (ks:=vs) rfl h2 h hG (Xaa hc _ (sort_asks (by omega)) g)
 ·obtain ⟨h3,h4⟩:vs.length < 300∧(krun lt (kas_count vs.length (List.toArray (List.range vs.length)))).1=vs.length:=by
   rcases h64 with h' | h'
   ·exact absurd h' h
   ·exact h'
  have eg:krun lt (kas_sort vs.length)=(krun lt (kas_count vs.length (List.toArray (List.range vs.length)))).2:=by
   unfold kas_sort
   rw [Yk,h4,if_neg (Nat.lt_irrefl _)]
   rfl
  rw [eg] at g
  have bel:Bel vs.length (List.toArray (List.range vs.length)):=⟨by omega,fun x hx=>by simpa using hx⟩
  have hd:=Xaa (Q:=fun r s'=>r.1=vs.length∧G r.2 s') hc _ (Wag (nrem:=vs.length) bel) ⟨h4,g⟩
  rw [kat_ask_eq (ks:=vs) rfl] at hd
  have run:=runsF (E:=E) (Q:=fun _ st' s'=>Q st' s') h2 h3 (by omega) hG hd
  have est:SortSt.mk' κ (vs.toArray.zip vs.toArray) #[] 7 none=kas_st κ (vs.toArray.zip vs.toArray) (List.toArray (List.range vs.length)):=by
   have e:=kas_range (vs.toArray.zip vs.toArray)
   rw [show (vs.toArray.zip vs.toArray).size=vs.length by simp] at e
   show SortSt.mk' κ (vs.toArray.zip vs.toArray) #[] 7 none=SortSt.mk' κ ((List.toArray (List.range vs.length)).map (kas_item (vs.toArray.zip vs.toArray))) #[] 7 none
   rw [e]
  rw [est]
  exact run
theorem Yv {a:Addr} {n:Nat} {P:PySem.Fin→Shared→Prop} (ob:s.heap.get? a=some (seqObj "list" vs.toArray n)) (h64:SortOk lt vs.length) (hA:∀ a b,lt a b=true→lt b a=false) (hT:∀ a b c,lt b a=false→lt c b=false→lt c a=false)
  (hc:2≤vs.length→∀ s':Shared,(∀ b o,b≠a→s.heap.get? b=some o→s'.heap.get? b=some o)→∃ κ,(∀ R:SortKind→Shared→Prop,R κ s'→wpAny (model prog w) A (keyKind' vs.toArray) R (fun _ _=>False) s') ∧
   ∀ i j (C:Bool→Shared→Prop),i < vs.length→j < vs.length→C (lt i j) s'→kas_ask prog w A κ vs i j C s')
  (h:∀ p:Array Nat,p.Perm (List.toArray (List.range vs.length))→Up lt p vs.length→P (.done (.ret .none)) { s with heap:=sortedHeap s.heap a vs (List.toArray (X8 vs p)) }) :
  wpAny (model prog w) A (Builtin.«list.sort» ⟨[.ref a],[]⟩) P E s:=by
 have sz:vs.toArray.size=vs.length:=by simp
 have h300:=h64.lt300
 have lz:∀ {p:Array Nat},p.size=vs.length→(List.toArray (X8 vs p)).size≤sizeLine + 1:=fun hp=>by
  unfold X8
  rw [List.size_toArray,List.length_map,Array.length_toList,hp,sizeLine_eq]; omega
 rw [list_sort_plain]
 refine wpAny_bind (listItems_at ob rfl ?_)
 refine wpAny_bind (listUpdate_at ob rfl ?_ (by rw [List.size_toArray,sizeLine_eq]; omega) (Nat.zero_le _))
 obtain ⟨ep,ob1⟩:∃ ep,(s.heap.update a (Obj.mapSeq fun _=>(#[]:Array Value))).get? a=some (seqObj "list" #[] ep):=⟨_,get?_update_seq ob fun _=>#[]⟩
 refine wpAny_bind (seqEpoch_at ob1 rfl ?_)
 refine wpAny_bind (wpAny_newTuple ?_ (by show vs.length≤_; rw [sizeLine_eq]; omega))
 refine wpAny_bind (wpAny_newList ?_ (Nat.zero_le _))
 refine wpAny_holding ?_
 have ob6:(((s.heap.update a (Obj.mapSeq fun _=>(#[]:Array Value))).push (seqObj "tuple" vs.toArray 0)).push (seqObj "list" #[] 0)).get? a=some (seqObj "list" #[] ep):=Heap.get?_push_of_some _ (Heap.get?_push_of_some _ ob1)
 have kp:∀ b o,b≠a→s.heap.get? b=some o→(((s.heap.update a (Obj.mapSeq fun _=>(#[]:Array Value))).push (seqObj "tuple" vs.toArray 0)).push (seqObj "list" #[] 0)).get? b=some o:=fun b o nb e =>
  Heap.get?_push_of_some _ (Heap.get?_push_of_some _ (by rw [Heap.get?_update_ne _ _ _ _ nb]; exact e))
 show wpAny (model prog w) A _ P E { s with heap:=((s.heap.update a (Obj.mapSeq fun _=>(#[]:Array Value))).push (seqObj "tuple" vs.toArray 0)).push (seqObj "list" #[] 0) }
 dsimp only
 by_cases z:vs.toArray.size < 2
 ·rw [if_pos z,if_pos z]
  refine wpAny_bind (wpAny_pure ?_)
  rw [StateT.run_pure]
  refine wpAny_bind (wpAny_pure ?_)
  dsimp only
  have eo:(arrOf (SortSt.mk' general' (vs.toArray.zip vs.toArray) #[] 7 none)).map (·.2)=List.toArray (X8 vs (List.toArray (List.range vs.length))):=by
   rw [out_range]
   show (vs.toArray.zip vs.toArray).map (·.2)=vs.toArray
   apply Array.toList_inj.mp
   simp [List.map_snd_zip]
  rw [eo]
  refine wpAny_bind (seqEpoch_at ob6 rfl ?_)
  refine wpAny_bind (listUpdate_at ob6 rfl ?_ (Nat.zero_le _) (lz (by simp)))
  simp only [if_false,bne_self_eq_false,Bool.false_eq_true]
  refine wpAny_pure (h _ (.refl _) fun i hi=>?_)
  rw [sz] at z; omega
 ·rw [if_neg z,if_neg z]
  rw [sz] at z
  obtain ⟨κ,k1,k2⟩:=hc (by omega) { s with heap:=((s.heap.update a (Obj.mapSeq fun _=>(#[]:Array Value))).push (seqObj "tuple" vs.toArray 0)).push (seqObj "list" #[] 0) } kp
  obtain ⟨r1,r2⟩:=sort_run hA hT (n:=vs.length) (by omega)
  refine wpAny_bind (wpAny_mono (k1 (fun κ' s'=>κ'=κ∧s'=_) ⟨rfl,rfl⟩) (fun κ' s0 e0=>?_) fun _ _ x=>x.elim)
  obtain ⟨rfl,rfl⟩:=e0
  refine wpAny_bind (wpAny_mono (kat_any (vs:=vs) (lt:=lt) (Q:=fun st' s'=>s'={ s with heap:=((s.heap.update a (Obj.mapSeq fun _=>(#[]:Array Value))).push (seqObj "tuple" vs.toArray 0)).push (seqObj "list" #[] 0) }∧∃ p:Array Nat,p.size=vs.length∧arrOf st'=p.map (kas_item (vs.toArray.zip vs.toArray))∧failedOf st'=none∧p=krun lt (kas_sort vs.length))
   (G:=fun p s'=>s'={ s with heap:=((s.heap.update a (Obj.mapSeq fun _=>(#[]:Array Value))).push (seqObj "tuple" vs.toArray 0)).push (seqObj "list" #[] 0) }∧p=krun lt (kas_sort vs.length))
   (by omega) h64 (fun p st' s' a1 a2 a3 a4=>⟨a4.1,p,a1,a2,a3,a4.2⟩) k2 ⟨rfl,rfl⟩) ?_ fun _ _ e=>e)
  rintro ⟨⟨⟩,st'⟩ s' ⟨rfl,p,hp,har,hf,rfl⟩
  dsimp only
  have ho:=kat_snds (vs:=vs) rfl har
  rw [ho]
  refine wpAny_bind (seqEpoch_at ob6 rfl ?_)
  refine wpAny_bind (listUpdate_at ob6 rfl ?_ (Nat.zero_le _) (lz hp))
  rw [hf]
  simp only [if_false,bne_self_eq_false,Bool.false_eq_true]
  exact wpAny_pure (h _ r1 r2)
theorem sorted_raw {l:Addr} {Q:Value→Shared→Prop} (hl:s.heap.IsList l vs.toArray) (h64:SortOk lt vs.length) (hA:∀ a b,lt a b=true→lt b a=false) (hT:∀ a b c,lt b a=false→lt c b=false→lt c a=false)
  (hc:Comp prog w A.in1.in1 s.heap vs lt)
  (h:∀ p:Array Nat,p.Perm (List.toArray (List.range vs.length))→Up lt p vs.length→Q (.ref (s.heap.objs.size + 1)) { s with heap:=sortedAll s.heap vs (List.toArray (X8 vs p)) }) :
  wpAny (model prog w) A (call (.builtin "sorted") [.ref l]) Q E s:=by
 have h300:=h64.lt300
 refine call_function_entry kind_sorted plain_sorted entry_sorted (args_sorted1 _) ?_
 unfold Builtin.«sorted»
 refine wpAny_bind (m:=checkCount "sorted" 1 1 _) (wpAny_pure ?_)
 refine wpAny_bind (collect_list hl ?_ (by rw [sizeLine_eq]; omega))
 refine wpAny_bind (wpAny_newList ?_ (by show vs.length≤_; rw [sizeLine_eq]; omega))
 have zs:((s.heap.push (seqObj "list" #[] 0)).update s.heap.objs.size (Obj.mapSeq (· ++ vs.toArray))).objs.size=s.heap.objs.size + 1:=by rw [Heap.size_update,size_push']
 have obL:(((s.heap.push (seqObj "list" #[] 0)).update s.heap.objs.size (Obj.mapSeq (· ++ vs.toArray))).push (seqObj "list" vs.toArray 0)).get? (s.heap.objs.size + 1)=some (seqObj "list" vs.toArray 0):=by rw [← zs]; exact Heap.get?_push_size _ rfl
 have kp:∀ b o,s.heap.get? b=some o→(((s.heap.push (seqObj "list" #[] 0)).update s.heap.objs.size (Obj.mapSeq (· ++ vs.toArray))).push (seqObj "list" vs.toArray 0)).get? b=some o:=fun b o q=>by
  have hb:b < s.heap.objs.size:=Heap.lt_size q
  rw [Heap.get?_push_ne _ _ _ (by rw [zs]; exact Nat.ne_of_lt (Nat.lt_succ_of_lt hb)),Heap.get?_update_ne _ _ _ _ (Nat.ne_of_lt hb),Heap.get?_push_ne _ _ _ (Nat.ne_of_lt hb)]; exact q
 show wpAny _ _ _ _ _ { s with heap:=((s.heap.push (seqObj "list" #[] 0)).update s.heap.objs.size (Obj.mapSeq (· ++ vs.toArray))).push (seqObj "list" vs.toArray 0) }
 rw [zs]
 refine wpAny_bind (wpAny_holding (wpAny_call_entry slot_list_sort ⟨_,obL,rfl⟩ entry_list_sort (Yv (lt:=lt) obL h64 hA hT (fun h2 s' k=>hc h2 s' fun b o e=>k b o ?_ (kp b o e)) fun p q1 q2=>⟨_,rfl,?_⟩) (args_list_sort _)))
 ·exact Nat.ne_of_lt (Nat.lt_succ_of_lt (Heap.lt_size e))
 ·exact wpAny_pure ⟨_,rfl,h p q1 q2⟩
end
end DW
end
section
set_option autoImplicit false
set_option maxHeartbeats 4000000
namespace DW
open PySem PySem.W PySem.Calls PyProof.Rows
noncomputable def IsItem (h:Heap) (v:Value) (x:Itm):Prop:=∃ (a:Addr) (o:Obj) (t u:Tok) (n:Nat),v = .ref a∧h.get? a=some o∧o.cls = .type "tuple"∧o.data = .seq #[.int x.1 t,.str ⟨x.2.toArray⟩ u] n
section
variable {prog:Program} {w:World} {A:Around} {E:Value→Shared→Prop}
end
end DW
end
section
set_option autoImplicit false
namespace DW
theorem Waw:∀ x y:List Nat,ltCs x y=true→ltCs y x=false
 | [],[],h=>by simp [ltCs] at h
 | [],_ :: _,_=>rfl
 | _ :: _,[],h=>by simp [ltCs] at h
 | a :: x,b :: y,h=>by
  unfold ltCs at h ⊢
  by_cases e:a=b
  ·rw [if_pos e] at h
   rw [if_pos e.symm]
   exact Waw x y h
  ·rw [if_neg e] at h
   rw [if_neg (fun z=>e z.symm)]
   simp at h ⊢; omega
theorem Waf:∀ x y z:List Nat,ltCs y x=false→ltCs z y=false→ltCs z x=false
 | x,y,[],h,k=>by
  cases x with
  | nil=>rfl
  | cons a x =>
   cases y with
   | nil=>simp [ltCs] at h
   | cons b y=>simp [ltCs] at k
 | [],y,c :: z,h,k=>by simp [ltCs]
 | a :: x,[],c :: z,h,k=>by simp [ltCs] at h
 | a :: x,b :: y,c :: z,h,k=>by
  unfold ltCs at h k ⊢
  by_cases e:b=a
  ·by_cases f:c=b
   ·rw [if_pos e] at h; rw [if_pos f] at k; rw [if_pos (f.trans e)]
    exact Waf x y z h k
   ·rw [if_neg f] at k; subst e; rw [if_neg f]; exact k
  ·rw [if_neg e] at h
   by_cases f:c=b
   ·subst f; rw [if_neg e]; exact h
   ·rw [if_neg f] at k
    simp at h k
    rw [if_neg (by omega)]
    simp; omega
theorem lt2_asym (x y:Itm) (h:lt2 x y=true):lt2 y x=false:=by
 unfold lt2 at h ⊢
 by_cases e:x.1=y.1
 ·rw [if_pos e] at h; rw [if_pos e.symm]; exact Waw _ _ h
 ·rw [if_neg e] at h; rw [if_neg (fun z=>e z.symm)]; simp at h ⊢; omega
theorem lt2_trans (x y z:Itm) (h:lt2 y x=false) (k:lt2 z y=false):lt2 z x=false:=by
 unfold lt2 at h k ⊢
 by_cases e:y.1=x.1
 ·by_cases f:z.1=y.1
  ·rw [if_pos e] at h; rw [if_pos f] at k; rw [if_pos (f.trans e)]; exact Waf _ _ _ h k
  ·rw [if_neg f] at k; rw [← e,if_neg f]; exact k
 ·rw [if_neg e] at h
  by_cases f:z.1=y.1
  ·rw [f,if_neg e]; exact h
  ·rw [if_neg f] at k
   simp at h k
   rw [if_neg (by omega)]; simp; omega
end DW
end
section
set_option autoImplicit false
namespace DW
open PySem PySem.W PyProof.Rows
end DW
namespace DW
open PySem PySem.W PySem.Calls PyProof.Rows
section
variable {prog:Program} {w:World} {A:Around} {E:Value→Shared→Prop}
end
end DW
end
section
set_option autoImplicit false
namespace DW
open PySem PySem.Spec PyProof.Rows L2
section
variable {prog:Program} {w:World} {A:Around} {E:Value→Shared→Prop} {s:Shared} {d it:Addr} {od:Obj} {es:Array DictEntry} {ep i:Nat}
theorem dit_new {Q:Value→Shared→Prop} (hs:(d == sysModules)=false) (ho:s.heap.get? d=some od) (hc:od.ExactDict) (hd:od.data = .dict es ep)
  (hQ:Q (.ref s.heap.objs.size) { s with heap:=s.heap.push { cls:=.type "dict_keyiterator",data:=.fields #[.ref d,.int 0 0,.int es.size 0,.int ep 0] } }):wpAny (model prog w) A (pyIter (.ref d)) Q E s:=by
 have T0:s.TypeIs (.ref d) "dict":=⟨od,ho,hc.1⟩
 refine wpAny_pyIter_slot T0 PySem.F.slot_dict_iter (wpAny_call_entry PySem.F.slot_dict_iter T0 PySem.F.entry_dict_iter ?_ (PySem.F.args_dict_iter_1 _))
 unfold Builtin.«dict.__iter__»; refine wpAny_bind ?_; unfold Builtin.Dict.dictSlotNone
 refine wpAny_bind (wpAny_notOrdered_dict T0 ?_); show wpAny _ _ (pure (Value.ref d)) _ _ s; refine wpAny_pure ?_
 show wpAny _ _ (Builtin.Dict.showsAll d >>= _) _ _ s; unfold Builtin.Dict.showsAll
 rw [if_neg (by rw [hs]; exact Bool.false_ne_true)]; refine wpAny_bind (wpAny_pure (wpAny_bind (wpAny_dictEntries ho hd (wpAny_bind (wpAny_dictEpoch ho hd ?_)))))
 refine wpAny_bind (wpAny_newObj_type (wpAny_pure ⟨_,rfl,"dict_keyiterator",_,⟨_,Heap.get?_push_size _ rfl,rfl⟩,PySem.F.slot_dict_keyiterator_next.lookup,?_⟩)); simpa [rawInt] using hQ
theorem dit_item {Q:Option Value→Shared→Prop} (hit:s.heap.IsKeyIter it d i es.size ep) (hod:s.heap.get? d=some od) (hdd:od.data = .dict es ep) (hlt:i < es.size)
  (hQ:∀ h',h'.IsKeyIter it d (i + 1) es.size ep→Heap.SameBut it s.heap h'→Q (some es[i].key) { s with heap:=h' }):wpAny (model prog w) A (pyNext (.ref it)) Q E s:=by
 obtain ⟨o,ho,hc,hd⟩:=id hit
 unfold pyNext
 refine wpAny_bind (wpAny_attempt (wpAny_callSpecial?_slot (name:=Str.ofString "__next__") hit.typeIs PySem.F.slot_dict_keyiterator_next (wpAny_call_entry PySem.F.slot_dict_keyiterator_next hit.typeIs PySem.F.entry_dict_keyiterator_next ?_ (PySem.F.args_dict_keyiterator_next_1 _))))
 refine wpAny_bind (wpAny_pure (wpAny_bind (wpAny_bind ?_)))
 (first | refine wpAny_bind (wpAny_typeNameOfWhole_keyiter hit.typeIs (wpAny_pure ?_)) | refine wpAny_bind (wpAny_typeNameOf_keyiter hit.typeIs (wpAny_pure ?_))); refine wpAny_bind (wpAny_fieldsOf ho hd ?_)
 have own:Builtin.Dict_items.ownsTuple "dict_keyiterator" = false:=by decide
 simp only [own,Bool.false_eq_true,if_false]; show wpAny _ _ (if (Value.ref d == Value.none)=true then _ else _) _ _ s
 rw [if_neg (show ¬ ((Value.ref d == Value.none)=true) from Bool.false_ne_true)]; refine wpAny_bind (wpAny_pure (wpAny_bind (wpAny_dictEntries hod hdd ?_)))
 rw [if_neg (by simp)]; refine wpAny_bind (wpAny_pure (wpAny_bind (wpAny_dictEpoch hod hdd ?_))); rw [if_neg (by simp)]; refine wpAny_pure ?_
 simp only [show ¬ ((i:Int) < 0) from by omega,if_false,Int.toNat_natCast,Array.getElem?_eq_getElem hlt]; refine wpAny_bind ?_
 (first | refine wpAny_bind (wpAny_typeNameOfWhole_keyiter hit.typeIs (wpAny_pure ?_)) | refine wpAny_bind (wpAny_typeNameOf_keyiter hit.typeIs (wpAny_pure ?_))); refine wpAny_bind (wpAny_isOneOf_keyiter hit.typeIs ?_)
 show wpAny _ _ (setField (.ref it) 1 (rawInt ((i:Int) + 1)) >>= _) _ _ s; refine wpAny_bind (wpAny_setField ho hd (by simp) ?_)
 have nx:(s.heap.update it (Obj.mapFields (·.setIfInBounds 1 (rawInt ((i:Int) + 1))))).IsKeyIter it d (i + 1) es.size ep:=⟨_,Heap.get?_update_self _ ho (Obj.isFreed_of_fields (Obj.data_mapFields hd _)),(Obj.cls_mapFields ..).trans hc,by rw [Obj.data_mapFields hd]; simp [rawInt]⟩
 refine wpAny_bind (wpAny_holding (wpAny_bind (wpAny_isOneOf_keyiter (s:={ s with heap:=s.heap.update it (Obj.mapFields (·.setIfInBounds 1 (rawInt ((i:Int) + 1)))) }) nx.typeIs ?_)))
 show wpAny _ _ (pure es[i].key) _ _ _; exact wpAny_pure (wpAny_pure ⟨_,rfl,wpAny_pure (hQ _ nx (Heap.SameBut.update ..))⟩)
theorem dit_end {Q:Option Value→Shared→Prop} (hh:A.handled=none) (hit:s.heap.IsKeyIter it d i es.size ep) (hod:s.heap.get? d=some od) (hdd:od.data = .dict es ep) (hge:es.size≤i)
  (hQ:∀ h',Heap.ExtBut it s.heap h'→Q none { s with heap:=h' }):wpAny (model prog w) A (pyNext (.ref it)) Q E s:=by
 obtain ⟨o,ho,hc,hd⟩:=id hit
 unfold pyNext
 refine wpAny_bind (wpAny_attempt (wpAny_callSpecial?_slot (name:=Str.ofString "__next__") hit.typeIs PySem.F.slot_dict_keyiterator_next (wpAny_call_entry PySem.F.slot_dict_keyiterator_next hit.typeIs PySem.F.entry_dict_keyiterator_next ?_ (PySem.F.args_dict_keyiterator_next_1 _))))
 refine wpAny_bind (wpAny_pure (wpAny_bind (wpAny_bind ?_)))
 (first | refine wpAny_bind (wpAny_typeNameOfWhole_keyiter hit.typeIs (wpAny_pure ?_)) | refine wpAny_bind (wpAny_typeNameOf_keyiter hit.typeIs (wpAny_pure ?_))); refine wpAny_bind (wpAny_fieldsOf ho hd ?_)
 have own:Builtin.Dict_items.ownsTuple "dict_keyiterator" = false:=by decide
 simp only [own,Bool.false_eq_true,if_false]; show wpAny _ _ (if (Value.ref d == Value.none)=true then _ else _) _ _ s
 rw [if_neg (show ¬ ((Value.ref d == Value.none)=true) from Bool.false_ne_true)]; refine wpAny_bind (wpAny_pure (wpAny_bind (wpAny_dictEntries hod hdd ?_)))
 rw [if_neg (by simp)]; refine wpAny_bind (wpAny_pure (wpAny_bind (wpAny_dictEpoch hod hdd ?_))); rw [if_neg (by simp)]; refine wpAny_pure ?_
 simp only [show ¬ ((i:Int) < 0) from by omega,if_false,Int.toNat_natCast,Array.getElem?_eq_none hge]; refine wpAny_bind ?_
 (first | refine wpAny_bind (wpAny_typeNameOfWhole_keyiter hit.typeIs (wpAny_pure ?_)) | refine wpAny_bind (wpAny_typeNameOf_keyiter hit.typeIs (wpAny_pure ?_))); show wpAny _ _ (setField (.ref it) 0 .none >>= _) _ _ s
 refine wpAny_bind (wpAny_setField ho hd (by simp) ?_); show wpAny _ _ (newExc (.type "StopIteration") [] >>= _) _ _ _; refine wpAny_bind ?_
 simp only [newExc,newTuple]; refine wpAny_bind (wpAny_newObj_type ?_ (by size_fits)); refine wpAny_bind (m:=firstArgMember _ _) (wpAny_of_eq (a:=Value.none) (by first | rfl | (simp only [firstArgMember]; rfl)) ?_)
 refine wpAny_newObj_type ?_ (by size_fits); simp only [raiseNew]; refine wpAny_bind (wpAny_handled ?_); rw [show A.in1.handled=none from hh]
 refine wpAny_bind (wpAny_pure (wpAny_throw ?_)); refine wpAny_bind (wpAny_isInstance (T:="StopIteration") (b:=true) ⟨_,Heap.get?_push_size _ rfl,rfl⟩ isSubtype_stop ?_)
 exact wpAny_pure (hQ _ (((Heap.SameBut.update ..).extBut.push _).push _))
end
theorem dit_walk {prog:Program} {w:World} {A:Around} (hh:A.handled=none) (I d:Addr) (hne:d≠I) (od:Obj) (es:Array DictEntry) (ep:Nat) (hd:od.data = .dict es ep) :
  Walks prog w A I [I,d] [I] es.size (fun i v=>∃ h:i < es.size,v=es[i].key) (fun i h=>h.IsKeyIter I d i es.size ep∧h.get? d=some od):=by
 refine ⟨fun b hb=>by simp at hb; simp [hb],fun _ _ _ st hk=>⟨st.1.at fun o e=>hk I (by simp) o e,hk d (by simp) _ st.2⟩,fun i s Q E hi st hQ=>?_,fun s Q E st hQ=>?_,fun _ _ _ _ st hQ=>wpAny_pyIter_keyiter st.1 hQ⟩
 ·exact dit_item st.1 st.2 hd hi fun h' st' sb=>hQ _ h' s.toks ⟨hi,rfl⟩ ⟨st',(sb.2 d hne).trans st.2⟩ fun b o hb e=>sb.extBut b o (fun h=>hb (by simp [h])) e
 ·exact dit_end hh st.1 st.2 hd (Nat.le_refl _) fun h' he=>hQ h' s.toks fun b o hb e=>he b o (fun h=>hb (by simp [h])) e
theorem dit_src {prog:Program} {w:World} {d:Addr} {od:Obj} {es:Array DictEntry} {ep:Nat} (lo:(d == sysModules)=false) (hc:od.ExactDict) (hd:od.data = .dict es ep) :
  PySem.W.KdlSrc prog w "dict" d d es.size (fun i v=>∃ h:i < es.size,v=es[i].key) (fun h=>h.get? d=some od):=by
 refine ⟨fun s hm=>⟨od,hm,hc.1⟩,fun _ hm=>⟨Heap.lt_size hm,Heap.lt_size hm⟩,fun _ _ hm hk=>hk d (.inl rfl) _ hm,by decide,by decide,fun _ _ s _ hm hq=>PySem.W.kdl_hint_dict ⟨od,hm,hc.1⟩ hq,fun A s hh hm=>?_⟩
 exact ⟨_,_,(fun _ _ hq=>dit_new lo hm hc hd hq),dit_walk hh _ d (Nat.ne_of_lt (Heap.lt_size hm)) od es ep hd,⟨⟨_,Heap.get?_push_size _ rfl,rfl,rfl⟩,Heap.get?_push_of_some _ hm⟩⟩
end DW
end
section
set_option autoImplicit false
set_option maxHeartbeats 4000000
namespace DW
open PySem PySem.W PySem.Calls PyProof.Rows
section
variable {prog:Program} {w:World} {A:Around} {E:Value→Shared→Prop} {s:Shared} {d:Addr} {od:Obj} {es:Array DictEntry} {ep:Nat}
theorem items_keys {es:Array DictEntry} {acc:Array Value} (h:ItemsOf (fun i v=>∃ h:i < es.size,v=es[i].key) acc es.size):acc.toList=es.toList.map (·.key):=by
 apply List.ext_getElem?
 intro i
 by_cases hi:i < es.size
 ·have h1:i < acc.size:=by rw [h.1]; exact hi
  obtain ⟨_,e⟩:=h.2 i acc[i] (by simp [h1])
  simp [h1,hi,e]
 ·have h1:¬ i < acc.size:=by rw [h.1]; exact hi
  simp [Nat.le_of_not_lt h1,Nat.le_of_not_lt hi]
theorem Za8 {Q:List Value→Shared→Prop} (hh:A.handled=none) (lo:(d == sysModules)=false) (ho:s.heap.get? d=some od) (hc:od.ExactDict) (hd:od.data = .dict es ep) (hn:es.size≤sizeLine)
  (hQ:∀ h' tk,s.heap.objs.size < h'.objs.size→(∀ b o,s.heap.get? b=some o→h'.get? b=some o)→Q (es.toList.map (·.key)) { s with heap:=h',toks:=tk }):wpAny (model prog w) A (collect (.ref d)) Q E s:=by
 have ne:s.heap.objs.size≠d:=Nat.ne_of_gt (Heap.lt_size ho)
 have hS:(s.heap.push { cls:=.type "list",data:=.seq ([]:List Value).toArray }).get? s.heap.objs.size=some { cls:=.type "list",data:=.seq ([]:List Value).toArray }:=Heap.get?_push_size _ rfl
 have key:∀ R:Result→Shared→Prop,(∀ h' tk acc' c',(∀ b o,b≠s.heap.objs.size→(s.heap.push { cls:=.type "list",data:=.seq ([]:List Value).toArray }).get? b=some o→h'.get? b=some o)→h'.get? s.heap.objs.size=some { cls:=.type "list",dict:=none,data:=.seq acc' c',slots:=#[] }→ItemsOf (fun i v=>∃ h:i < es.size,v=es[i].key) acc' es.size→R (.ok (.ret (.ref s.heap.objs.size))) { s with heap:=h',toks:=tk }) →
   codeAny (model prog w) A (.builtin "proto.collect" ⟨[.ref d],[]⟩) R s:=fun R hR=>by
  refine codeAny_builtin PySem.F.entry_proto_collect ?_
  rw [Around.under_plainId PySem.F.plain_proto_collect _]
  show wpAny _ A.in1 (do again (.builtin "list.__iadd__" ⟨[← newList [],.ref d],[]⟩)) _ _ s
  refine wpAny_bind (wpAny_newObj_type (wpAny_pure ⟨plainId_quiet PySem.F.plain_list_iadd _,codeAny_builtin PySem.F.entry_list_iadd ?_⟩))
  rw [Around.under_plainId PySem.F.plain_list_iadd _]
  exact kdl_extend (A:=A) (s:={ s with heap:=s.heap.push { cls:=.type "list",data:=.seq ([]:List Value).toArray } }) (dit_src (prog:=prog) (w:=w) lo hc hd) hh (Heap.get?_push_of_some _ ho) s.heap.objs.size ne ne (.ref s.heap.objs.size) 0 hS hR hn
 unfold collect
 refine wpAny_bind (wpAny_runValue (key _ fun h' tk acc' c' hk hS' hacc=>?_))
 show wpAny _ A (load s.heap.objs.size >>= _) _ _ _
 refine wpAny_bind (wpAny_load hS' ?_)
 show wpAny _ A (pure acc'.toList) _ _ _
 rw [items_keys hacc]
 exact wpAny_pure (hQ h' tk (Heap.lt_size hS') fun b o e=>hk b o (Nat.ne_of_lt (Heap.lt_size e)) (Heap.get?_push_of_some _ e))
theorem Za4 {Q:Value→Shared→Prop} {vs:List Value} {lt:Nat→Nat→Bool} (hh:A.handled=none) (lo:(d == sysModules)=false) (ho:s.heap.get? d=some od) (hc:od.ExactDict) (hd:od.data = .dict es ep) (hv:es.toList.map (·.key)=vs)
  (h64:vs.length < 64) (hA:∀ a b,lt a b=true→lt b a=false) (hT:∀ a b c,lt b a=false→lt c b=false→lt c a=false) (hcmp:Comp prog w A.in1.in1 s.heap vs lt)
  (h:∀ (p:Array Nat) (q:Addr) (h':Heap) (tk e:Nat),p.Perm (List.toArray (List.range vs.length))→Up lt p vs.length→s.heap.objs.size≤q→(∀ b o,s.heap.get? b=some o→h'.get? b=some o)→h'.get? q=some (seqObj "list" (List.toArray (X8 vs p)) e)→Q (.ref q) { s with heap:=h',toks:=tk }) :
  wpAny (model prog w) A (call (.builtin "sorted") [.ref d]) Q E s:=by
 refine call_function_entry kind_sorted plain_sorted entry_sorted (args_sorted1 _) ?_
 unfold Builtin.«sorted»
 refine wpAny_bind (m:=checkCount "sorted" 1 1 _) (wpAny_pure ?_)
 have hz:es.size≤sizeLine:=by
  have:es.size=vs.length:=by rw [← hv]; simp
  rw [this,sizeLine_eq]; omega
 refine wpAny_bind (Za8 hh lo ho hc hd hz fun h1 tk le0 kp=>?_)
 rw [hv]
 refine wpAny_bind (wpAny_newList ?_ (by show vs.length≤_; rw [sizeLine_eq]; omega))
 have obL:(h1.push (seqObj "list" vs.toArray 0)).get? h1.objs.size=some (seqObj "list" vs.toArray 0):=Heap.get?_push_size _ rfl
 have kp2:∀ b o,s.heap.get? b=some o→(h1.push (seqObj "list" vs.toArray 0)).get? b=some o:=fun b o e=>Heap.get?_push_of_some _ (kp b o e)
 have lt1:∀ b o,s.heap.get? b=some o→b < h1.objs.size:=fun b o e=>Heap.lt_size (kp b o e)
 have le1:s.heap.objs.size≤h1.objs.size:=Nat.le_of_lt le0
 show wpAny _ _ _ _ _ { s with heap:=h1.push (seqObj "list" vs.toArray 0),toks:=tk }
 refine wpAny_bind (wpAny_holding (wpAny_call_entry slot_list_sort ⟨_,obL,rfl⟩ entry_list_sort (Yv (lt:=lt) obL (.inl h64) hA hT (fun h2 s' k=>hcmp h2 s' fun b o e=>k b o (Nat.ne_of_lt (lt1 b o e)) (kp2 b o e)) fun p q1 q2=>⟨_,rfl,?_⟩) (args_list_sort _)))
 obtain ⟨e,he⟩:=sortedHeap_at (out:=List.toArray (X8 vs p)) obL
 refine wpAny_pure ⟨_,rfl,h p h1.objs.size _ tk e q1 q2 le1 (fun b o q=>?_) he⟩
 rw [sortedHeap_old (Nat.ne_of_lt (lt1 b o q)) (Nat.lt_of_lt_of_le (lt1 b o q) (by rw [Heap.size_push]; omega))]
 exact kp2 b o q
end
theorem X5:∀ {a b:List Int},ltI a b=true→ltI b a=false
 | [],[],h=>by simp [ltI] at h
 | [],_ :: _,_=>by simp [ltI]
 | _ :: _,[],h=>by simp [ltI] at h
 | x :: xs,y :: ys,h=>by
  unfold ltI at h ⊢
  by_cases c:x=y
  ·rw [if_pos c] at h; rw [if_pos c.symm]; exact X5 h
  ·rw [if_neg c] at h; rw [if_neg (Ne.symm c)]; simp at h ⊢; omega
theorem Zv:∀ {a b c:List Int},ltI b a=false→ltI c b=false→ltI c a=false
 | [],_,_,_,_=>by unfold ltI; rfl
 | x :: xs,[],c,h1,_=>by simp [ltI] at h1
 | x :: xs,y :: ys,[],_,h2=>by simp [ltI] at h2
 | x :: xs,y :: ys,z :: zs,h1,h2=>by
  unfold ltI at h1 h2 ⊢
  by_cases c1:y=x
  ·rw [if_pos c1] at h1
   by_cases c2:z=y
   ·rw [if_pos c2] at h2
    rw [if_pos (by omega)]
    exact Zv h1 h2
   ·rw [if_neg c2] at h2
    rw [if_neg (by omega)]
    simp at h2 ⊢; omega
  ·rw [if_neg c1] at h1
   by_cases c2:z=y
   ·rw [if_pos c2] at h2
    rw [if_neg (by omega)]
    simp at h1 ⊢; omega
   ·rw [if_neg c2] at h2
    simp at h1 h2
    rw [if_neg (by omega)]
    simp; omega
theorem ltI_eq:∀ {a b:List Int},ltI a b=false→ltI b a=false→a=b
 | [],[],_,_=>rfl
 | [],_ :: _,h,_=>by simp [ltI] at h
 | _ :: _,[],_,h=>by simp [ltI] at h
 | x :: xs,y :: ys,h1,h2=>by
  unfold ltI at h1 h2
  by_cases c:x=y
  ·rw [if_pos c] at h1; rw [if_pos c.symm] at h2
   rw [c,ltI_eq h1 h2]
  ·rw [if_neg c] at h1; rw [if_neg (Ne.symm c)] at h2
   simp at h1 h2; omega
noncomputable def IsTI (h:Heap) (v:Value) (l:List Int):Prop:=∃ (a:Addr) (o:Obj) (vs:List Value) (n:Nat),v = .ref a∧h.get? a=some o∧o.cls = .type "tuple"∧o.data = .seq vs.toArray n∧IntsAre vs l
noncomputable def ltTA (r:List (List Int)) (i j:Nat):Bool:=ltI (r[i]?.getD []) (r[j]?.getD [])
section
variable {prog:Program} {w:World} {A:Around} {E:Value→Shared→Prop}
theorem lex_ints {s:Shared} {C:Bool→Shared→Prop} {fin:Bool}:∀ {xs ys:List Value} {l k:List Int} (i:Nat),IntsAre xs l→IntsAre ys k→(fin=decide (xs.length < ys.length)∨i=0∨True)→C (ltI l k) s→(ltI l k=false→True)→(∀ n m:Nat,fin=fin)→(fin=decide (l.length < k.length))→KatLex prog w A true fin C (xs.zip ys) i s
 | [],[],_,_,i,.nil,.nil,_,h,_,_,hf=>by
  refine kat_nil ?_
  rw [hf]; simpa [ltI] using h
 | [],_ :: _,_,_,i,.nil,.cons n t hy,_,h,_,_,hf=>by
  refine kat_nil ?_
  rw [hf]; simpa [ltI] using h
 | _ :: _,[],_,_,i,.cons n t hx,.nil,_,h,_,_,hf=>by
  refine kat_nil ?_
  rw [hf]; simpa [ltI] using h
 | _ :: xs,_ :: ys,_,_,i,.cons n t hx,.cons m u hy,_,h,_,q,hf=>by
  rw [List.zip_cons_cons]
  refine kat_cons (wpAny_eqBool_int ?_)
  unfold ltI at h
  by_cases e:n=m
  ·rw [if_pos e] at h
   have e':(n == m)=true:=by simp [e]
   rw [e']
   exact kat_yes (lex_ints (i + 1) hx hy (.inr (.inr trivial)) h (fun _=>trivial) (fun _ _=>rfl) (by rw [hf]; simp))
  ·rw [if_neg e] at h
   have e':(n == m)=false:=by simp [e]
   rw [e']
   refine kat_no ?_
   cases hb:(true && i == 0) with
   | true=>exact oneLt_int h
   | false=>exact kat_one _ _ (lt_int h)
theorem ask_ti {s:Shared} {v u:Value} {x y:List Int} {C:Bool→Shared→Prop} (hv:IsTI s.heap v x) (hu:IsTI s.heap u y) (h:C (ltI x y) s):wpAny (model prog w) A (keyLt' (tuples' true) v u) C E s:=by
 obtain ⟨a,oa,va,n,rfl,ga,_,da,ia⟩:=hv
 obtain ⟨b,ob,vb,m,rfl,gb,_,db,ib⟩:=hu
 refine kat_lt ga da gb db ?_
 have:=lex_ints (prog:=prog) (w:=w) (A:=A) (fin:=decide (va.toArray.size < vb.toArray.size)) (C:=C) 0 ia ib (.inr (.inl rfl)) h (fun _=>trivial) (fun _ _=>rfl) (by have h1:=ia.length; have h2:=ib.length; simp [h1,h2])
 simpa using this
theorem comp_ti {h:Heap} {vs:List Value} {r:List (List Int)} (hl:vs.length=r.length) (hne:∀ x∈r,x≠[]) (hi:∀ (i:Nat) (v:Value) (x:List Int),vs[i]? = some v→r[i]? = some x→IsTI h v x):Comp prog w A h vs (ltTA r):=by
 intro h2 s' keep
 have hi':∀ (i:Nat) (v:Value) (x:List Int),vs[i]? = some v→r[i]? = some x→IsTI s'.heap v x:=fun i v x e1 e2=>by
  obtain ⟨a,o,ws,n,q1,q2,q3⟩:=hi i v x e1 e2
  exact ⟨a,o,ws,n,q1,keep _ _ q2,q3⟩
 refine ⟨tuples' true,fun R hR=>?_,fun i j C hi1 hj1 hC=>?_⟩
 ·have tups:∀ (vs:List Value) (r:List (List Int)),vs.length=r.length→(∀ x∈r,x≠[])→(∀ (i:Nat) (v:Value) (x:List Int),vs[i]? = some v→r[i]? = some x→IsTI s'.heap v x)→∃ fs:List Value,KatTups s'.heap vs fs∧fs.length=vs.length∧∀ f∈fs,∃ i t,f=Value.int i t:=by
   intro vs
   induction vs with
   | nil=>intro r _ _ _; exact ⟨[],.nil,rfl,by simp⟩
   | cons v vs ih =>
    intro r hl hne hi
    cases r with
    | nil=>simp at hl
    | cons x r =>
     obtain ⟨fs,k1,k2,k3⟩:=ih r (by simpa using hl) (fun y hy=>hne y (by simp [hy])) fun i v' x' e1 e2=>hi (i + 1) v' x' (by simpa using e1) (by simpa using e2)
     obtain ⟨a,o,ws,n,rfl,q2,q3,q4,q5⟩:=hi 0 v x rfl rfl
     cases q5 with
     | nil=>exact absurd rfl (hne [] (by simp))
     | cons m t q6 =>
      refine ⟨.int m t :: fs,.cons q2 q3 q4 rfl k1,by simp [k2],fun f hf=>?_⟩
      rcases List.mem_cons.mp hf with rfl | hf
      ·exact ⟨_,_,rfl⟩
      ·exact k3 f hf
  obtain ⟨fs,k1,k2,k3⟩:=tups vs r hl hne hi'
  refine kat_kind (T:=.type "int") k1 (by omega) (fun v hv=>?_) rfl hR
  obtain ⟨i,t,rfl⟩:=k3 v hv
  exact Looks.of_pure rfl
 ·have hir:i < r.length:=by omega
  have hjr:j < r.length:=by omega
  have ei:vs.getD i Value.none=vs[i]:=by simp [hi1]
  have ej:vs.getD j Value.none=vs[j]:=by simp [hj1]
  have el:ltTA r i j=ltI r[i] r[j]:=by simp [ltTA,hir,hjr]
  unfold kas_ask
  rw [ei,ej]
  rw [el] at hC
  exact ask_ti (hi' i _ _ (List.getElem?_eq_getElem hi1) (List.getElem?_eq_getElem hir)) (hi' j _ _ (List.getElem?_eq_getElem hj1) (List.getElem?_eq_getElem hjr)) hC
end
end DW
end
section
set_option autoImplicit false
namespace DW
open PySem PySem.Spec PyProof.Rows L2
section
variable {X:Cx}
theorem Yo {K:PySem.W.Frag} {b:String} {vs:List V} {H:Hp} {Q:VK} (h:lowA K (wBlt b) vs H Q) (hb:b≠"min3":=by decide):(∃ d v θ μ Qd,vs=[v]∧WOk K H θ μ∧Rp K H θ μ d v∧wBlt b [d] μ Qd∧Fin K H θ μ Qd Q)∨∃ d e v w θ μ Qd,vs=[v,w]∧WOk K H θ μ∧Rp K H θ μ d v∧Rp K H θ μ e w∧wBlt b [d,e] μ Qd∧Fin K H θ μ Qd Q:=by
 obtain ⟨ds,θ,μ,Qd,wk,rs,hw,f⟩:=h
 match ds,hw with
 | [],hw=>exact hw.elim
 | [d],hw =>
  obtain ⟨v,r,rfl,r1,r2⟩:=rs.cons_inv
  cases r2.nil_inv
  exact .inl ⟨d,v,θ,μ,Qd,rfl,wk,r1,hw,f⟩
 | [d,e],hw =>
  obtain ⟨v,r,rfl,r1,r2⟩:=rs.cons_inv
  obtain ⟨w,r,rfl,r3,r4⟩:=r2.cons_inv
  cases r4.nil_inv
  exact .inr ⟨d,e,v,w,θ,μ,Qd,rfl,wk,r1,r3,hw,f⟩
 | [d,e,g],hw=>exact (wB3_no hb hw).elim
 | _ :: _ :: _ :: _ :: _,hw=>exact hw.elim
theorem blt_len : CallR X (.builtin "len") (lowA X.K (wBlt "len")) := by
  intro pins s σ H xs us Q I r h
  rcases Yo h with ⟨d, v, θ, μ, Qd, rfl, wk, rd, hw, f⟩ | ⟨d, e, v, w, θ, μ, Qd, rfl, wk, rd, re, hw, f⟩
  · simp only [wBlt] at hw
    split at hw
    · rename_i n hn
      refine call_len pins s σ H _ us Q I r ⟨v, n, rfl, ?_, f.at wk Yc hw⟩
      have seq : ∀ {ds : List D}, Yb μ d = some ds → n = ds.length → LenV X.K v H n := fun {ds} hq hl => by
        obtain ⟨a, xs, rfl, hx, r'⟩ := Vi wk rd hq
        rcases hx with hx | hx
        · exact .inl ⟨xs, hx, hl.trans r'.length⟩
        · exact .inr ⟨xs, hx, hl.trans r'.length⟩
      cases d with
      | str x =>
        obtain ⟨rfl, hx⟩ := Wd rd
        simp only [lenOf, Option.some.injEq] at hn
        exact ⟨by simpa [Str.length] using hx, by rw [← hn]; simp [Str.length]⟩
      | _ =>
        simp only [lenOf] at hn
        first
          | (simp [Yb] at hn; done)
          | (cases q : Yb μ _ with
             | none => rw [q] at hn; cases hn
             | some ds => rw [q] at hn; simp only [Option.map_some, Option.some.injEq] at hn; exact seq q hn.symm)
    · obtain ⟨a, kvs, rfl, e, q⟩ := len_dict wk rd hw
      obtain ⟨u, rfl, ru⟩ := r.one
      cases (show u = Value.ref a from ru)
      exact d_len I (.inl e) fun t s' I' => ⟨.int kvs.length, H, I', ⟨t, rfl⟩, f.at wk Yc q⟩
  · simp [wBlt] at hw
theorem blt_all (hc:X.calm=true):CallR X (.builtin "all") (lowA X.K (wBlt "all")):=by
 intro pins s σ H xs us Q I r h
 rcases Yo h with ⟨d,v,θ,μ,Qd,rfl,wk,rd,hw,f⟩ | ⟨d,e,v,w,θ,μ,Qd,rfl,wk,rd,re,hw,f⟩
 ·simp only [wBlt] at hw
  split at hw
  ·rename_i b hb
   cases q:Wm μ d with
   | none=>rw [q] at hb; cases hb
   | some ds =>
    rw [q] at hb
    obtain ⟨a,ys,rfl,hx,rs⟩:=Vl wk rd q
    obtain ⟨bs,rfl,eb⟩:=bools_V rs hb
    exact call_allL hc pins s σ H _ us Q I r ⟨a,bs,rfl,hx,f.at wk Wn (by rw [eb]; exact hw)⟩
  ·exact hw.elim
 ·simp [wBlt] at hw
theorem blt_sum (hc:X.calm=true):CallR X (.builtin "sum") (lowA X.K (wBlt "sum")):=by
 intro pins s σ H xs us Q I r h
 rcases Yo h with ⟨d,v,θ,μ,Qd,rfl,wk,rd,hw,f⟩ | ⟨d,e,v,w,θ,μ,Qd,rfl,wk,rd,re,hw,f⟩
 ·simp only [wBlt] at hw
  split at hw
  ·rename_i ns hb
   cases q:Yb μ d with
   | none=>rw [q] at hb; cases hb
   | some ds =>
    rw [q] at hb
    cases d with
    | tup es =>
     simp only [Yb,Option.some.injEq] at q
     subst q
     obtain ⟨a,ys,rfl,hx,nl,rs⟩:=We rd
     cases Yag rs hb
     exact call_sumT hc pins s σ H _ us Q I r ⟨a,ns,rfl,.of hx,f.at wk Yc hw⟩
    | _ =>
     obtain ⟨a,ys,rfl,hx,rs⟩:=Vl (ds:=ds) wk rd (by simpa [Wm] using q)
     cases Yag rs hb
     exact call_sumL hc pins s σ H _ us Q I r ⟨a,ns,rfl,hx,f.at wk Yc hw⟩
  ·exact hw.elim
 ·simp [wBlt] at hw
theorem blt_max (hc:X.calm=true):CallR X (.builtin "max") (lowA X.K (wBlt "max")):=by
 intro pins s σ H xs us Q I r h
 rcases Yo h with ⟨d,v,θ,μ,Qd,rfl,wk,rd,hw,f⟩ | ⟨d,e,v,w,θ,μ,Qd,rfl,wk,rd,re,hw,f⟩
 ·simp only [wBlt] at hw
  split at hw
  ·rename_i n ns hb
   cases q:Wm μ d with
   | none=>rw [q] at hb; cases hb
   | some ds =>
    rw [q] at hb
    obtain ⟨a,ys,rfl,hx,rs⟩:=Vl wk rd q
    cases Yag rs hb
    exact call_maxL hc pins s σ H _ us Q I r ⟨a,n,ns,rfl,hx,f.at wk Yc hw⟩
  ·exact hw.elim
 ·cases d with
  | int i =>
   cases e with
   | int j =>
    cases Zb rd; cases Zb re
    exact call_max2 hc pins s σ H _ us Q I r ⟨i,j,rfl,f.at wk Yc hw⟩
   | _=>simp [wBlt] at hw
  | _=>simp [wBlt] at hw
theorem blt_min (hc:X.calm=true):CallR X (.builtin "min") (lowA X.K (wBlt "min")):=by
 intro pins s σ H xs us Q I r h
 rcases Yo h with ⟨d,v,θ,μ,Qd,rfl,wk,rd,hw,f⟩ | ⟨d,e,v,w,θ,μ,Qd,rfl,wk,rd,re,hw,f⟩
 ·simp only [wBlt] at hw
  split at hw
  ·rename_i n ns hb
   cases q:Wm μ d with
   | none=>rw [q] at hb; cases hb
   | some ds =>
    rw [q] at hb
    obtain ⟨a,ys,rfl,hx,rs⟩:=Vl wk rd q
    cases Yag rs hb
    exact call_minL hc pins s σ H _ us Q I r ⟨a,n,ns,rfl,hx,f.at wk Yc hw⟩
  ·exact hw.elim
 ·cases d with
  | int i =>
   cases e with
   | int j =>
    cases Zb rd; cases Zb re
    exact call_min2 hc pins s σ H _ us Q I r ⟨i,j,rfl,f.at wk Yc hw⟩
   | _=>simp [wBlt] at hw
  | _=>simp [wBlt] at hw
theorem keysB {H:Hp} {θ:List Addr} {μ:Mem}:∀ {is:List Int} {kvs:List (Key×V)},kvs.map (·.1)=(is.map (Sum.inl:Int→DKey)).map keyOf→Rps X.K H θ μ (is.map .int) (kvs.map fun kv=>kV kv.1)
 | [],kvs,h=>by
  have:kvs=[]:=by simpa using h
  subst this; exact Reps.nil
 | i :: is,[],h=>by simp at h
 | i :: is,kv :: kvs,h=>by
  simp only [List.map_cons,List.cons.injEq] at h
  rw [List.map_cons,List.map_cons]
  refine Reps.cons ?_ (keysB h.2)
  rw [h.1]
  exact Yc
theorem list_dict {pins:List (Addr×Obj)} {σ:L2.St} {H:Hp} {s:Shared} {a:Addr} {kvs:List (Key×V)} {Q:Value→Shared→Prop} {E:Value→Shared→Prop} (hc:X.calm=true) (I:Inv X pins σ H s) (e:Rd H a (.dK kvs))
  (h:∀ p s',H p=none→Inv X pins σ (upd H p (.lst (kvs.map fun kv=>kV kv.1))) s'→Q (.ref p) s'):wpAny (model X.prog X.w) X.A (call (.type "list") [.ref a]) Q E s:=by
 obtain ⟨z,hd,vs,rel,dd⟩:=dk_rd I.hok e
 obtain ⟨ep,dat⟩:=dd.dictAt
 have hl:=rel.length
 refine PySem.W.kdl_call (PySem.W.kdl_dict (knd:=Vd X.prog X.w) hd) (I.ok.hd hc) dat (by rw [← hl]; exact z) fun h' tk acc' c' hk hS hacc=>?_
 refine h _ _ (I.hok.fresh (Nat.le_refl _)) (I.laid (a:=s.heap.objs.size) (t':=tk) hk (Nat.le_refl _) (show ObjOk X.prog X.w _ h' _ (.lst _) from ⟨by simpa using z,acc'.toList,c',?_,by simpa using hS⟩))
 have la:acc'.toList.length=vs.length:=by rw [Array.length_toList]; exact hacc.1
 have get:∀ (j:Nat) (v:Value),acc'.toList[j]? = some v→∃ k x,vs[j]? = some (k,x)∧Wax k v=true:=fun j v e=>hacc.2 j v (by rw [← Array.getElem?_toList]; exact e)
 clear hk hS hacc dat dd I h z e
 generalize acc'.toList=us at la get
 induction kvs generalizing vs us with
 | nil=>cases rel; cases us with
  | nil=>exact .nil
  | cons _ _=>simp at la
 | cons p kvs ih =>
  cases rel with
  | cons h t =>
   rename_i q qs
   cases us with
   | nil=>simp at la
   | cons u us =>
    refine .cons ?_ (ih qs t (Paired.length t) us (by simpa using la) fun j v e=>by simpa using get (j + 1) v (by simpa using e))
    obtain ⟨k,x,e1,e2⟩:=get 0 u rfl
    simp only [List.getElem?_cons_zero,Option.some.injEq] at e1
    subst e1
    show L2.RelV (kV p.1) u
    rw [h.1]
    rcases Xc e2 with ⟨i,tt,rfl,rfl⟩ | ⟨x,tt,rfl,rfl⟩
    ·exact ⟨tt,rfl⟩
    ·exact ⟨tt,rfl⟩
theorem blt_list (hc:X.calm=true):CallR X (.type "list") (lowA X.K (wBlt "list")):=by
 intro pins s σ H xs us Q I r h
 rcases Yo h with ⟨d,v,θ,μ,Qd,rfl,wk,rd,hw,f⟩ | ⟨d,e,v,w,θ,μ,Qd,rfl,wk,rd,re,hw,f⟩
 ·simp only [wBlt] at hw
  split at hw
  ·rename_i ds hq
   obtain ⟨a,ys,rfl,hx,rs⟩:=Vi wk rd hq
   exact X3 pins s σ H _ us Q I r ⟨a,ys,rfl,hx,fun l hl=>Vak wk f rs hw hl⟩
  ·unfold wKys at hw
   split at hw
   ·rename_i n _
    obtain ⟨a,rfl,ha⟩:=Zc rd
    split at hw
    ·rename_i ks ds hn
     obtain ⟨kvs,h1,h2,h3⟩:=wk.cell n _ a hn ha
     obtain ⟨u,rfl,ru⟩:=r.one
     cases (show u=Value.ref a from ru)
     refine list_dict hc I (.inl h1) fun p s' hp I'=>⟨.ref p,_,I',rfl,?_⟩
     obtain ⟨is,rfl,hw⟩:=hw
     exact Vak wk f (keysB h2) hw hp
    ·exact hw.elim
   ·exact hw.elim
 ·simp [wBlt] at hw
theorem blt_mlist:CallR X (.type "list") (lowA X.K (wBlt "mlist")):=by
 intro pins s σ H xs us Q I r h
 rcases Yo h with ⟨d,v,θ,μ,Qd,rfl,wk,rd,hw,f⟩ | ⟨d,e,v,w,θ,μ,Qd,rfl,wk,rd,re,hw,f⟩
 ·simp only [wBlt] at hw
  split at hw
  ·rename_i ds hq
   obtain ⟨a,ys,rfl,hx,rs⟩:=Vi wk rd hq
   exact X3 pins s σ H _ us Q I r ⟨a,ys,rfl,hx,fun l hl=>Yp wk f rs hw hl⟩
  ·exact hw.elim
 ·simp [wBlt] at hw
theorem blt_tuple:CallR X (.type "tuple") (lowA X.K (wBlt "tuple")):=by
 intro pins s σ H xs us Q I r h
 rcases Yo h with ⟨d,v,θ,μ,Qd,rfl,wk,rd,hw,f⟩ | ⟨d,e,v,w,θ,μ,Qd,rfl,wk,rd,re,hw,f⟩
 ·simp only [wBlt] at hw
  split at hw
  ·rename_i ds hq
   cases d with
   | tup es =>
    simp only [Yb,Option.some.injEq] at hq
    subst hq
    obtain ⟨a,ys,rfl,hx,nl,rs⟩:=We rd
    exact Yx pins s σ H _ us Q I r ⟨a,ys,rfl,.inr ⟨.of hx,f.at wk (by unfold Rep; exact ⟨a,ys,rfl,hx,nl,rs⟩) hw⟩⟩
   | _ =>
    obtain ⟨a,ys,rfl,hx,rs⟩:=Vl (ds:=ds) wk rd (by simpa [Wm] using hq)
    exact Yx pins s σ H _ us Q I r ⟨a,ys,rfl,.inl ⟨hx,fun l hl=>Yz wk f rs hw hl⟩⟩
  ·exact hw.elim
 ·simp [wBlt] at hw
theorem blt_divmod:CallR X (.builtin "divmod") (lowA X.K (wBlt "divmod")):=by
 intro pins s σ H xs us Q I r h
 rcases Yo h with ⟨d,v,θ,μ,Qd,rfl,wk,rd,hw,f⟩ | ⟨d,e,v,w,θ,μ,Qd,rfl,wk,rd,re,hw,f⟩
 ·simp [wBlt] at hw
 ·cases d with
  | int i =>
   cases e with
   | int j =>
    cases Zb rd; cases Zb re
    have hw:CDivD j∧Qd (.tup [.int (i / j),.int (i % j)]) μ:=hw
    obtain ⟨⟨h1,h2⟩,hq⟩:=hw
    obtain ⟨u,w',rfl,⟨t,rfl⟩,⟨t',rfl⟩⟩:=vals2 r
    have h3:j.natAbs < 2 ^ 500:=by omega
    have h4:j.natAbs≠0:=by omega
    have h5:=(Nat.log2_lt h4).mpr h3
    refine divmod_int (by omega) ?_ (.inl (PyProof.noPylong_of_log2 (by omega)))
    rw [Int.fdiv_eq_ediv_of_nonneg i (by omega),Int.fmod_eq_emod_of_nonneg i (by omega)]
    have hn:H s.heap.objs.size=none:=I.hok.fresh (Nat.le_refl _)
    refine ⟨.ref s.heap.objs.size,_,?_,rfl,Yz wk f (xs:=[.int (i / j),.int (i % j)]) (.cons Yc (.cons Yc .nil)) hq hn⟩
    refine I.laid (fun b o e=>Heap.get?_push_of_some _ e) (Nat.le_refl _) ⟨by simp only [List.length_cons,List.length_nil]; rw [sizeLine_eq]; decide,[.int (i / j) s.toks,.int (i % j) (s.toks + 1)],.cons ⟨_,rfl⟩ (.cons ⟨_,rfl⟩ .nil),?_⟩
    exact ⟨_,Heap.get?_push_size s.heap rfl,rfl,0,rfl,rfl⟩
   | _=>simp [wBlt] at hw
  | _=>simp [wBlt] at hw
theorem tup_nl {K:PySem.W.Frag} {H:Hp} {θ:List Addr} {μ:Mem} {b:Addr} {xs:List V} (wk:WOk K H θ μ) (h:H b=some (.tup xs)):¬ Live θ μ b:=by
 rintro ⟨n,c,h1,h2,h3⟩
 have:=wk.cell n c b h2 h1
 cases c with
 | lst ds=>obtain ⟨_,e,_⟩:=this; rw [h] at e; cases e
 | ins c fs=>obtain ⟨_,_,_,_,e,_⟩:=this; rw [h] at e; cases e
 | dic ks ds=>obtain ⟨_,e,_⟩:=this; rw [h] at e; cases e
 | dtc ks ds=>obtain ⟨_,e,_⟩:=this; rw [h] at e; cases e
 | fdt o ks ds=>obtain ⟨_,e,_⟩:=this; rw [h] at e; cases e
 | exc c ks ds=>obtain ⟨_,_,_,_,e,_⟩:=this; rw [h] at e; cases e
 | gone=>exact h3 rfl
theorem Wau {H:Hp} {θ:List Addr} {μ:Mem}:∀ {l:List Int} {xs:List V},Rps X.K H θ μ (l.map D.int) xs→xs=l.map V.int
 | [],xs,r=>by rw [r.nil_inv]; rfl
 | i :: l,xs,r=>by
  obtain ⟨v,vr,rfl,r1,r2⟩:=r.cons_inv
  rw [Zb r1,Wau r2]; rfl
theorem Zay {H:Hp} {θ:List Addr} {μ:Mem}:∀ (l:List Int),Rps X.K H θ μ (l.map D.int) (l.map V.int)
 | []=>Reps.nil
 | i :: l=>Reps.cons Yc (Zay l)
theorem Xbb:∀ {l:List Int} {us:List Value},Vals (l.map V.int) us→IntsAre us l
 | [],us,h=>by cases h; exact .nil
 | i :: l,us,h=>by
  cases h with
  | cons r t=>obtain ⟨t0,rfl⟩:=r; exact .cons i t0 (Xbb t)
theorem ti_at {pins:List (Addr×Obj)} {σ:L2.St} {H:Hp} {s:Shared} {b:Addr} {l:List Int} (I:Inv X pins σ H s) (h:H b=some (.tup (l.map V.int))):IsTI s.heap (.ref b) l:=by
 obtain ⟨_,its,rv,ob,e,c,n,d,_⟩:=(show ObjOk X.prog X.w H s.heap b (.tup (l.map V.int)) from I.hok b _ h)
 exact ⟨b,ob,its,n,rfl,e,c,d,Xbb rv⟩
theorem ti_of {pins:List (Addr×Obj)} {σ:L2.St} {H:Hp} {s:Shared} {θ:List Addr} {μ:Mem} {x:List Int} {v:V} {u:Value} (I:Inv X pins σ H s) (r:Rp X.K H θ μ (tI x) v) (ru:RelV v u):IsTI s.heap u x:=by
 obtain ⟨b,xs,rfl,hb,_,rs⟩:=We r
 cases ru
 rw [Wau rs] at hb
 exact ti_at I hb
theorem outsT {H:Hp} {θ:List Addr} {μ:Mem} {r:List (List Int)} {ys:List V} {its:List Value} (rs:Rps X.K H θ μ (r.map tI) ys) (rv:Vals ys its):∀ l:List Nat,(∀ i∈l,i < r.length) →
  Rps X.K H θ μ ((l.map fun i=>r[i]?.getD []).map tI) (l.map fun i=>ys[i]?.getD .non)∧Vals (l.map fun i=>ys[i]?.getD .non) (l.map fun i=>its.getD i Value.none)
 | [],_=>⟨Reps.nil,.nil⟩
 | i :: l,h=>by
  obtain ⟨h1,h2⟩:=outsT rs rv l fun j hj=>h j (by simp [hj])
  have hi:i < r.length:=h i (by simp)
  have e0:(r.map tI)[i]? = some (tI r[i]):=by simp [hi]
  obtain ⟨v,e1,e2⟩:=rs.get e0
  obtain ⟨u,f1,f2⟩:=rv.get e1
  have g1:ys[i]?.getD .non=v:=by rw [e1]; rfl
  have g2:its.getD i Value.none=u:=by simp [f1]
  have g3:r[i]?.getD []=r[i]:=by simp [hi]
  simp only [List.map_cons,g1,g2,g3]
  exact ⟨Reps.cons e2 h1,.cons f2 h2⟩
noncomputable def outT (r:List (List Int)) (p:Array Nat):List (List Int):=p.toList.map fun i=>r[i]?.getD []
theorem outT_perm {r:List (List Int)} {p:Array Nat} (h:p.Perm (List.toArray (List.range r.length))):(outT r p).Perm r:=by
 have h1:p.toList.Perm (List.range r.length):=by simpa using Array.perm_iff_toList_perm.mp h
 have e:(List.range r.length).map (fun i=>r[i]?.getD [])=r:=by
  apply List.ext_getElem?
  intro i
  by_cases hi:i < r.length
  ·simp [hi]
  ·simp [Nat.le_of_not_lt hi,hi]
 have:=h1.map (fun i=>r[i]?.getD [])
 rw [e] at this
 exact this
theorem outT_up {r:List (List Int)} {p:Array Nat} (hs:p.size=r.length) (h:Up (ltTA r) p r.length):UpI (outT r p):=by
 unfold UpI outT
 rw [List.pairwise_iff_getElem]
 intro i j hi hj hij
 have hi':i < p.size:=by simpa using hi
 have hj':j < p.size:=by simpa using hj
 have:=Up.le (lt:=ltTA r) (fun a b c q1 q2=>Zv q1 q2) h (fun a=>by cases q:ltTA r a a with
  | false=>rfl
  | true=>exact (q.symm.trans (X5 q))) (j - i) i (by omega)
 rw [show i + (j - i)=j by omega] at this
 simpa [ltTA,at',Array.getD,hi',hj'] using this
theorem V7 {pins:List (Addr×Obj)} {s:Shared} {σ:L2.St} {H:Hp} {Q:VK} {ys:List V} {its:List Value} {θ:List Addr} {μ:Mem} {r:List (List Int)} {p:Array Nat} {q:Addr} {h':Heap} {tk e:Nat} (I:Inv X pins σ H s) (rs:Rps X.K H θ μ (r.map tI) ys) (vi:Vals ys its) (hl:r.length < 64) (len2:its.length=r.length)
  (q1:p.Perm (List.toArray (List.range its.length))) (q2:Up (ltTA r) p its.length) (hq:s.heap.objs.size≤q) (kp:∀ b o,s.heap.get? b=some o→h'.get? b=some o) (hat:h'.get? q=some (seqObj "list" (List.toArray (X8 its p)) e))
  (h:∀ (r':List (List Int)) (zs:List V) (p:Addr),r'.Perm r→UpI r'→Rps X.K H θ μ (r'.map tI) zs→H p=none→Q (.ref p) (upd H p (.lst zs))):EP X pins σ Q (.ref q) { s with heap:=h',toks:=tk }:=by
 rw [len2] at q1 q2
 have hp:∀ i∈p.toList,i < r.length:=fun i hi=>by
  have:=q1.mem_iff.mp (Array.mem_toList_iff.mp hi)
  simpa using this
 have hs:p.size=r.length:=by have:=q1.size_eq; simpa using this
 obtain ⟨o1,o2⟩:=outsT rs vi p.toList hp
 refine ⟨.ref q,upd H q (.lst (p.toList.map fun i=>ys[i]?.getD .non)),I.laid (t':=tk) kp hq ?_,rfl,h (outT r p) _ _ (outT_perm q1) (outT_up hs q2) o1 (I.hok.fresh hq)⟩
 exact ⟨by rw [List.length_map,Array.length_toList,hs,sizeLine_eq]; omega,_,e,o2,hat⟩
theorem Zas {pins:List (Addr×Obj)} {s:Shared} {σ:L2.St} {H:Hp} {us:List Value} {Q:VK} {a:Addr} {ys:List V} {θ:List Addr} {μ:Mem} {r:List (List Int)} (I:Inv X pins σ H s) (rv:Vals [.ref a] us) (hx:SqL X.K H a ys) (rs:Rps X.K H θ μ (r.map tI) ys) (hl:r.length < 64) (hne:∀ x∈r,x≠[])
  (h:∀ (r':List (List Int)) (zs:List V) (p:Addr),r'.Perm r→UpI r'→Rps X.K H θ μ (r'.map tI) zs→H p=none→Q (.ref p) (upd H p (.lst zs))):wpAny (model X.prog X.w) X.A (call (.builtin "sorted") us) (EP X pins σ Q) X.xe s:=by
 obtain ⟨u,rfl,ru⟩:=rv.one
 cases (show u=Value.ref a from ru)
 obtain ⟨its,vi,pl,hz⟩:=I.list hx
 have len1:ys.length=r.length:=by have:=rs.length; simpa using this.symm
 have len2:its.length=r.length:=by rw [← len1]; exact vi.length.symm
 refine sorted_raw (lt:=ltTA r) pl.isList (.inl (by omega)) (fun a b q=>X5 q) (fun a b c q1 q2=>Zv q1 q2) (comp_ti len2 hne fun i v x e1 e2=>?_) fun p q1 q2=>?_
 ·have e0:(r.map tI)[i]? = some (tI x):=by rw [List.getElem?_map,e2]; rfl
  obtain ⟨y,f1,f2⟩:=rs.get e0
  obtain ⟨u,g1,g2⟩:=vi.get f1
  rw [e1] at g1; cases g1
  exact ti_of I f2 g2
 ·obtain ⟨ep,hat⟩:=sortedAll_at s.heap its (List.toArray (X8 its p))
  exact V7 (tk:=s.toks) I rs vi hl len2 q1 q2 (Nat.le_succ _) (fun b o e=>sortedAll_old e) hat h
theorem Va6 {K:PySem.W.Frag} {H:Hp} {θ:List Addr} {μ:Mem} (wk:WOk K H θ μ):∀ {kvs:List (List Key×V)} {xs:List (List Key×Addr×Value)} {r:List (List Int)},KT H kvs xs→kvs.map (·.1)=(r.map fun l=>l.map (Sum.inl:Int→DKey)).map (·.map keyOf) →
  Rps K H θ μ (r.map tI) (xs.map fun q=>V.ref q.2.1)∧∀ (i:Nat) (q:List Key×Addr×Value) (l:List Int),xs[i]? = some q→r[i]? = some l→H q.2.1=some (.tup (l.map V.int))
 | [],xs,r,t,e=>by
  cases t
  have:r=[]:=by simpa using e.symm
  subst this
  exact ⟨Reps.nil,fun i q l h=>by simp at h⟩
 | p :: kvs,xs,r,t,e=>by
  cases t with
  | cons h t =>
   rename_i q qs
   cases r with
   | nil=>simp at e
   | cons l r =>
    simp only [List.map_cons,List.cons.injEq] at e
    obtain ⟨i1,i2⟩:=Va6 wk t e.2
    have hH:H q.2.1=some (.tup (l.map V.int)):=by
     rw [h.2.1,e.1,List.map_map,List.map_map]
     rfl
    refine ⟨?_,fun i q' l' h1 h2=>?_⟩
    ·rw [List.map_cons,List.map_cons]
     refine Reps.cons ?_ i1
     unfold tI Rep
     refine ⟨_,_,rfl,hH,tup_nl wk hH,?_⟩
     have:∀ l:List Int,Reps K H θ (Live θ μ) (l.map D.int) (l.map V.int):=by
      intro l
      induction l with
      | nil=>exact Reps.nil
      | cons i l ih=>exact Reps.cons Yc ih
     exact this l
    ·cases i with
     | zero=>simp at h1 h2; subst h1 h2; exact hH
     | succ i=>exact i2 i q' l' (by simpa using h1) (by simpa using h2)
theorem Yas {pins:List (Addr×Obj)} {s:Shared} {σ:L2.St} {H:Hp} {us:List Value} {Q:VK} {a:Addr} {o:Obj} {kvs:List (List Key×V)} {θ:List Addr} {μ:Mem} {r:List (List Int)} (hc:X.calm=true) (wk:WOk X.K H θ μ) (I:Inv X pins σ H s) (rv:Vals [.ref a] us) (hx:H a=some (.frz o (.dT kvs)))
  (hk:kvs.map (·.1)=(r.map fun l=>l.map (Sum.inl:Int→DKey)).map (·.map keyOf)) (hl:r.length < 64) (hne:∀ x∈r,x≠[])
  (h:∀ (r':List (List Int)) (zs:List V) (p:Addr),r'.Perm r→UpI r'→Rps X.K H θ μ (r'.map tI) zs→H p=none→Q (.ref p) (upd H p (.lst zs))):wpAny (model X.prog X.w) X.A (call (.builtin "sorted") us) (EP X pins σ Q) X.xe s:=by
 obtain ⟨u,rfl,ru⟩:=rv.one
 cases (show u=Value.ref a from ru)
 obtain ⟨h0,z,hs,xs,rel,o',es,ep,h1,h2,h3,h4,h5⟩:=(show ObjOk X.prog X.w H s.heap a (.frz o (.dT kvs)) from I.hok a _ hx)
 rw [h0] at h1; cases h1
 obtain ⟨rs,kh⟩:=Va6 wk rel hk
 have ev:es.toList.map (·.key)=xs.map fun q=>Value.ref q.2.1:=by rw [h4,List.map_map]; rfl
 have vi:Vals (xs.map fun q=>V.ref q.2.1) (xs.map fun q=>Value.ref q.2.1):=by
  clear rs kh ev rel h4 h5
  induction xs with
  | nil=>exact .nil
  | cons q xs ih=>exact .cons rfl ih
 have len2:(xs.map fun q=>Value.ref q.2.1).length=r.length:=by have:=rs.length; simpa using this.symm
 refine Za4 (lt:=ltTA r) (I.ok.hd hc) hs h0 h2 h3 ev (by omega) (fun a b q=>X5 q) (fun a b c q1 q2=>Zv q1 q2) (comp_ti len2 hne fun i v x e1 e2=>?_) fun p q h' tk e q1 q2 hq kp hat=>?_
 ·rw [List.getElem?_map] at e1
  cases hq:xs[i]? with
  | none=>rw [hq] at e1; cases e1
  | some q=>rw [hq] at e1; cases e1; exact ti_at I (kh i q x hq e2)
 ·exact V7 I rs vi hl len2 q1 q2 hq kp hat h
theorem Vbc {m:Bool} {pins:List (Addr×Obj)} {s:Shared} {σ:L2.St} {H:Hp} {us:List Value} {Q:VK} {d:D} {v:V} {θ:List Addr} {μ:Mem} {Qd:QD} (hc:X.calm=true) (I:Inv X pins σ H s) (rv:Vals [v] us) (wk:WOk X.K H θ μ) (rd:Rp X.K H θ μ d v) (hw:wTso m d μ Qd) (f:Fin X.K H θ μ Qd Q):wpAny (model X.prog X.w) X.A (call (.builtin "sorted") us) (EP X pins σ Q) X.xe s:=by
 obtain ⟨r,hr,hl,hne,h⟩:=hw
 rcases hr with hr | ⟨n,o,ds,rfl,hn⟩
 ·obtain ⟨a,ys,rfl,hx,rs⟩:=Vl wk rd hr
  exact Zas I rv hx rs hl hne fun r' zs p q1 q2 q3 q4=>Yp wk f q3 (h r' q1 q2) q4
 ·obtain ⟨a,rfl,ha⟩:=Zc rd
  obtain ⟨kvs,e1,e2,e3⟩:=wk.cell n _ a hn ha
  exact Yas hc wk I rv e1 e2 hl hne fun r' zs p q1 q2 q3 q4=>Yp wk f q3 (h r' q1 q2) q4
theorem Ya9 (hc:X.calm=true):CallR X (.builtin "sorted") (lowA X.K (wBlt "tsorted")):=by
 intro pins s σ H xs us Q I r h
 rcases Yo h with ⟨d,v,θ,μ,Qd,rfl,wk,rd,hw,f⟩ | ⟨d,e,v,w,θ,μ,Qd,rfl,wk,rd,re,hw,f⟩
 ·exact Vbc hc I r wk rd (by simpa only [wBlt] using hw) f
 ·simp [wBlt] at hw
theorem Za1 (hc:X.calm=true):CallR X (.builtin "sorted") (lowA X.K (wBlt "mtsorted")):=by
 intro pins s σ H xs us Q I r h
 rcases Yo h with ⟨d,v,θ,μ,Qd,rfl,wk,rd,hw,f⟩ | ⟨d,e,v,w,θ,μ,Qd,rfl,wk,rd,re,hw,f⟩
 ·exact Vbc hc I r wk rd (by simpa only [wBlt] using hw) f
 ·simp [wBlt] at hw
theorem blt_int:CallR X (.type "int") (lowA X.K (wBlt "int")):=by
 intro pins s σ H xs us Q I r h
 rcases Yo h with ⟨d,v,θ,μ,Qd,rfl,wk,rd,hw,f⟩ | ⟨d,e,v,w,θ,μ,Qd,rfl,wk,rd,re,hw,f⟩
 ·simp only [wBlt] at hw
  cases d with
  | int i=>cases Zb rd; exact Wa0 pins s σ H _ us Q I r (.inl ⟨i,rfl,f.at wk Yc hw⟩)
  | bl b=>cases Zi rd; exact Wa0 pins s σ H _ us Q I r (.inr ⟨b,rfl,f.at wk Yc hw⟩)
  | str x =>
   obtain ⟨n,⟨hl,hn⟩,hq⟩:=hw
   obtain ⟨rfl,_⟩:=Wd rd
   obtain ⟨u,rfl,ru⟩:=vals1 r
   obtain ⟨t,rfl⟩:=ru
   exact PySem.W.KIN.call_text hn (by simpa [Str.length] using hl) ⟨.int n,H,I.tok _,⟨_,rfl⟩,f.at wk Yc hq⟩
  | _=>exact hw.elim
 ·simp [wBlt] at hw
theorem pe_bltD {x:String} {as:List Expr} {ws:WA} {y:Str} {p pos:Pos} {e:Expr} {es:List Expr} (hx:x∈knownB) (ey:y=bname x) (hc:X.calm=true) (hrm:∃ k,Room k X.A) (g:Gl X y) (m:X.mg y=none) (ha:PA X (e :: es) (LA X.K ws))
  (hs:starEach (e :: es) X.env=(false,eval e X.env) :: starEach es X.env) (hpl:(backTo pos (starEach es X.env)).any (·.1)=false) :
  PE X (.Call (.Name y p) (e :: es) [] pos) (LE X.K fun ρ μ Q=>ws ρ μ fun ds μ1=>wBlt x ds μ1 Q):=by
 have wk:∀ {f:Value},PE X (.Call (.Name y p) (e :: es) [] pos) (tCB (lowA X.K (wBlt x)) (LA X.K ws))→PE X (.Call (.Name y p) (e :: es) [] pos) (LE X.K fun ρ μ Q=>ws ρ μ fun ds μ1=>wBlt x ds μ1 Q):=fun h=>PE.wk h fun σ H Q z=>le_args z
 subst ey
 simp only [knownB,List.mem_cons,List.not_mem_nil,or_false] at hx
 rcases hx with rfl | rfl | rfl | rfl | rfl | rfl | rfl | rfl | rfl | rfl | rfl | rfl
 ·exact wk (f:=.none) (Yj blt_len g m (by decide +kernel) ha (by decide +kernel) (by decide +kernel) hs hpl)
 ·exact wk (f:=.none) (Yj (blt_all hc) g m (by decide +kernel) ha (by decide +kernel) (by decide +kernel) hs hpl)
 ·exact wk (f:=.none) (Yj (blt_sum hc) g m (by decide +kernel) ha (by decide +kernel) (by decide +kernel) hs hpl)
 ·exact wk (f:=.none) (Yj (blt_max hc) g m (by decide +kernel) ha (by decide +kernel) (by decide +kernel) hs hpl)
 ·exact wk (f:=.none) (Yj (blt_min hc) g m (by decide +kernel) ha (by decide +kernel) (by decide +kernel) hs hpl)
 ·exact wk (f:=.none) (Wu (blt_list hc) g m (by decide +kernel) ha (by decide +kernel) (by decide +kernel) hs hpl)
 ·exact wk (f:=.none) (Wu blt_mlist g m (by decide +kernel) ha (by decide +kernel) (by decide +kernel) hs hpl)
 ·exact wk (f:=.none) (Wu blt_tuple g m (by decide +kernel) ha (by decide +kernel) (by decide +kernel) hs hpl)
 ·exact wk (f:=.none) (Yj blt_divmod g m (by decide +kernel) ha (by decide +kernel) (by decide +kernel) hs hpl)
 ·exact wk (f:=.none) (Wu blt_int g m (by decide +kernel) ha (by decide +kernel) (by decide +kernel) hs hpl)
 ·exact wk (f:=.none) (Yj (Ya9 hc) g m (by decide +kernel) ha (by decide +kernel) (by decide +kernel) hs hpl)
 ·exact wk (f:=.none) (Yj (Za1 hc) g m (by decide +kernel) ha (by decide +kernel) (by decide +kernel) hs hpl)
end
end DW
end
section
set_option autoImplicit false
namespace L2
open PySem PySem.Spec PyProof.Rows
theorem Zo {env:Env}:∀ (names:List (Str×NameKind)) (acc:List (Str×Addr)),(∀ y∈names,y.2 = .free→∃ c,env.cells.lookup y.1=some c) →
  (∀ y c,acc.lookup y=some c→env.cells.lookup y=some c) →
  ∃ cl:List (Str×Addr),(forIn names acc fun (x:Str×NameKind) (r:List (Str×Addr))=>match x with
   | (name,kind)=>if (kind == .free)=true then (do let c ← cellOf env name; pure (ForInStep.yield ((name,c) :: r))) else pure (ForInStep.yield r))=(pure cl:Sem (List (Str×Addr))) ∧
   (∀ y c,cl.lookup y=some c→env.cells.lookup y=some c)∧(∀ y,(acc.lookup y).isSome=true→(cl.lookup y).isSome=true)∧∀ y∈names,y.2 = .free→(cl.lookup y.1).isSome=true
 | [],acc,_,h2=>⟨acc,by simp,h2,fun _ h=>h,fun y hy=>nomatch hy⟩
 | (n,k) :: r,acc,h1,h2=>by
  by_cases hk:k = .free
  ·subst hk
   obtain ⟨c,hc⟩:=h1 (n,.free) List.mem_cons_self rfl
   obtain ⟨cl,e1,e2,e3,e4⟩:=Zo r ((n,c) :: acc) (fun y hy=>h1 y (List.mem_cons_of_mem _ hy)) (fun y d hy=>by
    rw [List.lookup_cons] at hy
    split at hy
    ·rename_i hb
     rw [eq_of_beq hb]; cases hy; exact hc
    ·exact h2 y d hy)
   refine ⟨cl,?_,e2,fun y hy=>e3 y ?_,fun y hy hf=>?_⟩
   ·rw [List.forIn_cons]
    simp only [beq_self_eq_true,if_true]
    have:cellOf env n=pure c:=by unfold cellOf; rw [hc]
    rw [this,pure_bind,pure_bind]
    exact e1
   ·rw [List.lookup_cons]; split <;> simp_all
   ·rcases List.mem_cons.mp hy with rfl | hy
    ·exact e3 n (by simp [List.lookup_cons])
    ·exact e4 y hy hf
  ·obtain ⟨cl,e1,e2,e3,e4⟩:=Zo r acc (fun y hy=>h1 y (List.mem_cons_of_mem _ hy)) h2
   refine ⟨cl,?_,e2,e3,fun y hy hf=>?_⟩
   ·rw [List.forIn_cons]
    have hb:(k == NameKind.free)=false:=by simpa using hk
    simp only [hb,Bool.false_eq_true,if_false]
    rw [pure_bind]
    exact e1
   ·rcases List.mem_cons.mp hy with rfl | hy
    ·exact absurd hf hk
    ·exact e4 y hy hf
theorem Xac {scope:Scope} {env:Env} (h:∀ y∈scope.names,y.2 = .free→∃ c,env.cells.lookup y.1=some c) :
  ∃ cl,closureFor scope env=pure cl∧(∀ y c,cl.lookup y=some c→env.cells.lookup y=some c)∧∀ y∈scope.names,y.2 = .free→(cl.lookup y.1).isSome=true:=by
 obtain ⟨cl,e1,e2,_,e4⟩:=Zo scope.names [] h (fun y c hy=>by simp at hy)
 refine ⟨cl,?_,e2,e4⟩
 unfold closureFor
 simp only [bind_pure]
 exact e1
noncomputable def Vw (X:Cx) (Nc:List Str) (scope:Scope) (cl:List (Str×Addr)) (C:Addr) (s:Shared) (H:Hp) (ex:List Addr):Cx :=
 { X with N:=Nc,s₀:=s,H₀:=H,env:=compEnvC scope cl C X.env,outer:=X.stack,ex:=ex,fn:=fun y=>scope.names.lookup y == some .cell,pn:=[],xe:=fun _ _=>False }
noncomputable def PIf (X:Cx) (ifs:List Expr) (t:TT):Prop :=
 ∀ (pins:List (Addr×Obj)) (s:Shared) (σ:St) (H:Hp) (Q:Bool→Hp→Prop),Inv X pins σ H s→t σ H Q →
  wpAny (model X.prog X.w) X.A (forIn ifs true fun c r=>if r=true then do let ok ← isTrue c X.env (eval c X.env); pure (ForInStep.yield ok) else pure (ForInStep.yield r)) (TP X pins σ Q) X.xe s
theorem pif_nil {X:Cx}:PIf X [] (fun σ H Q=>Q true H):=fun pins s σ H Q I h=>by
 rw [List.forIn_nil]; exact wpAny_pure ⟨H,I,h⟩
theorem pif_one {X:Cx} {c:Expr} {t:TT} (hc:PT X c t):PIf X [c] t:=fun pins s σ H Q I h=>by
 rw [List.forIn_cons]
 simp only [if_true]
 refine wpAny_bind (wpAny_bind (thn (hc pins s σ H Q I h) fun b s1 q=>wpAny_pure ?_))
 show wpAny _ _ (forIn ([]:List Expr) b _) _ _ _
 rw [List.forIn_nil]; exact wpAny_pure q
noncomputable def capS (cap:List Nat) (σ:St):St:=cap.map fun i=>(σ[i]?).join
noncomputable def tComp (n:Nat) (gt:TG) (cap:List Nat) (wi:TI) (tt:TT) (te:TE):TE:=fun σ H Q=>wi σ H fun J H1=>∃ W:Nat→Nat→List V→St→Hp→Prop,(∃ m,W 0 m [] (List.replicate n none ++ capS cap σ) H1)∧∀ i m vs σc H,W i m vs σc H →
 (vs.length≤sizeLine∧J.stop i H∧∀ p,H p=none→Q (.ref p) (upd H p (.lst vs))) ∨
 (J.go i H∧vs.length < sizeLine∧∀ x H',J.yld i H x H'→gt x σc H' fun σ2 H2=>tt σ2 H2 fun b H3 =>
  if b=true then te σ2 H3 fun v H4=>∃ m',m' < m∧W (i + 1) m' (vs ++ [v]) σ2 H4 else ∃ m',m' < m∧W (i + 1) m' vs σ2 H3)
structure CompTxt (X:Cx) (xs:List Str) (scope:Scope) (Nc:List Str) (cap:List Nat):Prop where
 kind:scope.kind = .function
 cells:∀ y∈scope.names,y.2 = .cell→scope.names.lookup y.1=some .cell
 names:∀ y∈scope.names,y.2 = .local→scope.names.lookup y.1=some .local
 nd:Nc.Nodup
 caps:∀ (j:Nat) (y:Str),Nc[xs.length + j]? = some y→∃ i,cap[j]? = some i∧X.N[i]? = some y∧scope.names.lookup y=some .free
 len:Nc.length=xs.length + cap.length
 free:∀ y∈scope.names,y.2 = .free→X.env.kindOf y.1=some .cell∨X.env.kindOf y.1=some .free
theorem relabel_free {env:Env}:∀ {names:List (Str×NameKind)} {x:Str},names.lookup x=some .free →
  (names.map fun (n,k)=>if (k == NameKind.free && env.scope.kind == .function && env.kindOf n == some .cell) then (n,NameKind.cell) else (n,k)).lookup x=some .free ∨
  (names.map fun (n,k)=>if (k == NameKind.free && env.scope.kind == .function && env.kindOf n == some .cell) then (n,NameKind.cell) else (n,k)).lookup x=some .cell
 | [],_,h=>by simp at h
 | (n,k) :: r,x,h=>by
  have ih:=@relabel_free env r x
  show List.lookup x ((if (k == NameKind.free && env.scope.kind == .function && env.kindOf n == some .cell)=true then (n,NameKind.cell) else (n,k)) :: _)=_∨List.lookup x ((if (k == NameKind.free && env.scope.kind == .function && env.kindOf n == some .cell)=true then (n,NameKind.cell) else (n,k)) :: _)=_
  by_cases hc:(k == NameKind.free && env.scope.kind == .function && env.kindOf n == some .cell)=true
  ·rw [if_pos hc]
   cases hx:x == n with
   | true=>right; simp only [List.lookup_cons,hx]
   | false =>
    simp only [List.lookup_cons,hx] at h ⊢
    exact ih h
  ·rw [if_neg hc]
   cases hx:x == n with
   | true =>
    simp only [List.lookup_cons,hx] at h ⊢
    exact .inl h
   | false =>
    simp only [List.lookup_cons,hx] at h ⊢
    exact ih h
theorem relabel_glob' {env:Env}:∀ {names:List (Str×NameKind)} {x:Str},names.lookup x=some .globalImplicit →
  (names.map fun (n,k)=>if (k == NameKind.free && env.scope.kind == .function && env.kindOf n == some .cell) then (n,NameKind.cell) else (n,k)).lookup x=some .globalImplicit
 | [],_,h=>by simp at h
 | (n,k) :: r,x,h=>by
  have ih:=@relabel_glob' env r x
  show List.lookup x ((if (k == NameKind.free && env.scope.kind == .function && env.kindOf n == some .cell)=true then (n,NameKind.cell) else (n,k)) :: _)=_
  by_cases hc:(k == NameKind.free && env.scope.kind == .function && env.kindOf n == some .cell)=true
  ·rw [if_pos hc]
   cases hx:x == n with
   | true =>
    simp only [List.lookup_cons,hx] at h
    have:k = .free:=by
     rw [Bool.and_eq_true,Bool.and_eq_true] at hc
     simpa using hc.1.1
    rw [this] at h; cases h
   | false =>
    simp only [List.lookup_cons,hx] at h ⊢
    exact ih h
  ·rw [if_neg hc]
   cases hx:x == n with
   | true =>
    simp only [List.lookup_cons,hx] at h ⊢
    exact h
   | false =>
    simp only [List.lookup_cons,hx] at h ⊢
    exact ih h
theorem Vau {scope:Scope} {env:Env} {x:Str} (h:scope.names.lookup x=some .globalImplicit):(relabel scope env).names.lookup x=some .globalImplicit:=relabel_glob' h
theorem relabel_cell {env:Env}:∀ {names:List (Str×NameKind)} {x:Str},names.lookup x=some .cell →
  (names.map fun (n,k)=>if (k == NameKind.free && env.scope.kind == .function && env.kindOf n == some .cell) then (n,NameKind.cell) else (n,k)).lookup x=some .cell
 | [],_,h=>by simp at h
 | (n,k) :: r,x,h=>by
  have ih:=@relabel_cell env r x
  show List.lookup x ((if (k == NameKind.free && env.scope.kind == .function && env.kindOf n == some .cell)=true then (n,NameKind.cell) else (n,k)) :: _)=_
  by_cases hc:(k == NameKind.free && env.scope.kind == .function && env.kindOf n == some .cell)=true
  ·rw [if_pos hc]
   cases hx:x == n with
   | true=>simp only [List.lookup_cons,hx]
   | false =>
    simp only [List.lookup_cons,hx] at h ⊢
    exact ih h
  ·rw [if_neg hc]
   cases hx:x == n with
   | true =>
    simp only [List.lookup_cons,hx] at h ⊢
    exact h
   | false =>
    simp only [List.lookup_cons,hx] at h ⊢
    exact ih h
theorem Wk:∀ (names:List (Str×NameKind)) (n:Nat) (acc:List (Str×Addr)),cellsFrom n names acc=cellsFrom n names [] ++ acc
 | [],n,acc=>rfl
 | (x,k) :: r,n,acc=>by
  unfold cellsFrom
  split
  ·rw [Wk r (n + 1) ((x,n) :: acc),Wk r (n + 1) [(x,n)]]; simp
  ·exact Wk r n acc
theorem Wac:∀ (names:List (Str×NameKind)) (n:Nat) (y:Str) (c:Addr),(y,c)∈cellsFrom n names []→(y,NameKind.cell)∈names
 | [],n,y,c,h=>by simp [cellsFrom] at h
 | (x,k) :: r,n,y,c,h=>by
  unfold cellsFrom at h
  split at h
  ·rename_i hk
   rw [Wk] at h
   rcases List.mem_append.mp h with z | z
   ·exact List.mem_cons_of_mem _ (Wac r _ y c z)
   ·simp only [List.mem_cons,List.not_mem_nil,or_false,Prod.mk.injEq] at z
    obtain ⟨rfl,_⟩:=z
    rw [eq_of_beq hk]; exact List.mem_cons_self
  ·exact List.mem_cons_of_mem _ (Wac r _ y c h)
theorem Zx:∀ (names:List (Str×NameKind)) (n:Nat) (y:Str),(y,NameKind.cell)∈names→((cellsFrom n names []).lookup y).isSome=true
 | [],n,y,h=>by simp at h
 | (x,k) :: r,n,y,h=>by
  unfold cellsFrom
  rcases List.mem_cons.mp h with z | z
  ·cases z
   rw [if_pos (by rfl),Wk,List.lookup_append]
   cases q:(cellsFrom (n + 1) r []).lookup x with
   | some c=>rfl
   | none=>simp [List.lookup_cons]
  ·split
   ·rw [Wk,List.lookup_append]
    have:=Zx r (n + 1) y z
    obtain ⟨c,e⟩:=Option.isSome_iff_exists.mp this
    rw [e]; rfl
   ·exact Zx r n y z
theorem Wa5 {M:Model} {A:Around} {E:Value→Shared→Prop} {s:Shared} {scope:Scope} {globals:Addr} {cl:List (Str×Addr)} {qual:Str} {env:Env} {Q:Env→Shared→Prop}
  (hQ:Q (newEnv scope s.heap.objs.size globals (cellsFrom (s.heap.objs.size + 1) scope.names cl) qual none .none (some env) builtinsNs) { s with heap:=pushCells (s.heap.push { cls:=.type "dict",data:=.dict #[] }) scope.names }) :
  wpAny M A (newFunctionEnv scope globals cl [] qual none .none (some env)) Q E s:=by
 simp only [newFunctionEnv,Option.isSome_some,if_true]
 refine wpAny_bind (wpAny_alloc ?_)
 refine wpAny_bind (wpAny_layCells _ (fun name kind cells=>by cases hkc:kind == NameKind.cell <;> simp [hkc]) _ _ _ _ ?_)
 rw [show ({ s with heap:=s.heap.push { cls:=.type "dict",data:=.dict #[] } }:Shared).heap.objs.size=s.heap.objs.size + 1 from Heap.size_push ..]
 rw [List.forIn_nil]
 exact wpAny_bind (wpAny_pure (wpAny_pure hQ))
theorem relabel_lookup {env:Env}:∀ {names:List (Str×NameKind)} {x:Str} {k:NameKind},
  (names.map fun (n,k)=>if (k == NameKind.free && env.scope.kind == .function && env.kindOf n == some .cell) then (n,NameKind.cell) else (n,k)).lookup x=some k →
  names.lookup x=some k∨(k = .cell∧names.lookup x=some .free)
 | [],_,_,h=>by simp at h
 | (n,k0) :: r,x,k,h=>by
  have ih:=@relabel_lookup env r x k
  have h':List.lookup x ((if (k0 == NameKind.free && env.scope.kind == .function && env.kindOf n == some .cell)=true then (n,NameKind.cell) else (n,k0)) :: (r.map fun (n,k)=>if (k == NameKind.free && env.scope.kind == .function && env.kindOf n == some .cell) then (n,NameKind.cell) else (n,k)))=some k:=h
  by_cases hc:(k0 == NameKind.free && env.scope.kind == .function && env.kindOf n == some .cell)=true
  ·rw [if_pos hc] at h'
   cases hx:x == n with
   | true =>
    simp only [List.lookup_cons,hx] at h' ⊢
    cases h'
    have:k0 = .free:=by
     rw [Bool.and_eq_true,Bool.and_eq_true] at hc
     simpa using hc.1.1
    exact .inr ⟨rfl,by rw [this]⟩
   | false =>
    simp only [List.lookup_cons,hx] at h' ⊢
    exact ih h'
  ·rw [if_neg hc] at h'
   cases hx:x == n with
   | true =>
    simp only [List.lookup_cons,hx] at h' ⊢
    exact .inl h'
   | false =>
    simp only [List.lookup_cons,hx] at h' ⊢
    exact ih h'
end L2
namespace L2
open PySem PySem.Spec PyProof.Rows
section
variable {X:Cx} {elt iter tg:Expr} {xs:List Str} {gt:TG} {ifs:List Expr} {scope:Scope} {pos:Pos} {Nc:List Str} {cap:List Nat} {tt:TT} {te:TE} {cl:List (Str×Addr)}
 {pins:List (Addr×Obj)} {s2:Shared} {σ:St} {H2:Hp} {it:Addr} {fp:List Addr} {tn:Nat→Heap→Prop} {J:It}
noncomputable abbrev listAt (h:Heap) (D:Addr) (vs:List V):Prop:=∃ (its:List Value) (n:Nat),Vals vs its∧h.get? D=some { cls:=.type "list",data:=.seq its.toArray n }
theorem comp_loopT {prog:Program} {w:World} {A:Around} {R:Result→Shared→Prop} {s:Shared} {elt tg iter:Expr} {ifs:List Expr} {scope:Scope} {pos:Pos} {it acc:Value} {env:Env} (J:Nat→Shared→Prop)
  (turn:∀ m s0,J m s0→wpAny (model prog w) A (pyNext it) (fun r s1=>match r with
   | none=>R (.ok .next) s1
   | some v=>wpAny (model prog w) A (letOwnedTupleGo tg it v) (fun _ s2=>wpAny (model prog w) A (assign tg env v) (fun _ s3 =>
     wpAny (model prog w) A (forIn ifs true fun c r=>if r=true then do let ok ← isTrue c env (eval c env); pure (ForInStep.yield ok) else pure (ForInStep.yield r)) (fun b s4 =>
      if b=true then wpAny (model prog w) A (eval elt env) (fun x s5 =>
       wpAny (model prog w) A (call (.builtin "list.append") [acc,x]) (fun _ s6=>∃ k,k < m∧J k s6) (notedBy (model prog w) A env fun e z=>R (.error e) z) s5) (notedBy (model prog w) A env fun e z=>R (.error e) z) s4
      else ∃ k,k < m∧J k s4) (notedBy (model prog w) A env fun e z=>R (.error e) z) s3) (notedBy (model prog w) A env fun e z=>R (.error e) z) s2) (notedBy (model prog w) A env fun e z=>R (.error e) z) s1) (notedBy (model prog w) A env fun e z=>R (.error e) z) s0)
  (m:Nat) (h:J m s):codeAny (model prog w) A (.compLoop (.ListComp elt [⟨tg,iter,ifs,0⟩] scope pos) 0 it acc env) R s:=by
 refine codeAny_loop rfl J ?_ m h
 intro m s0 h0
 have q:=turn m s0 h0
 show wpAny _ A (Sem.onRaise (compTurn (.ListComp elt [⟨tg,iter,ifs,0⟩] scope pos) 0 it acc env) _) _ _ s0
 apply wpAny_noted
 rw [compTurn_list]
 apply wpAny_bind
 apply wpAny_standAt
 refine wpAny_bind (thn q ?_)
 rintro (_ | v) s1 q
 ·exact wpAny_pure q
 refine wpAny_bind (thn q ?_)
 intro _ s2 q
 refine wpAny_bind (thn q ?_)
 intro _ s3 q
 refine wpAny_bind (thn q ?_)
 rintro (_ | _) s4 q
 ·exact wpAny_pure ⟨rfl,q⟩
 refine wpAny_bind (wpAny_bind (thn q ?_))
 intro x s5 q
 refine wpAny_bind (thn q ?_)
 intro _ s6 q
 exact wpAny_pure (wpAny_pure ⟨rfl,q⟩)
theorem comp_start (T:CompTxt X xs scope Nc cap) {h₁:Heap} {o:Obj} (hcl:∀ y c,cl.lookup y=some c→(scope.names.lookup y≠some .cell∧X.env.cells.lookup y=some c)∨(scope.names.lookup y=some .cell∧(s2.heap.push o).objs.size < c∧h₁.IsCell c none)) (hcl1:∀ y z c,cl.lookup y=some c→cl.lookup z=some c→y=z) (hcl2:∀ y∈scope.names,(y.2 = .free∨y.2 = .cell)→(cl.lookup y.1).isSome=true)
  (I2:Inv X pins σ H2 s2) (st2:tn 0 s2.heap) (Tn:Turn X.calm X.prog X.w X.K tg J fp it tn) (f2:∀ b∈fp,FpOk X pins H2 b) {m:Str→Option Value} {tk:Nat}
  (ho:∀ v,o.data≠.cell v)
  (hns:h₁.Ns (s2.heap.push o).objs.size m) (old:∀ b ob,(s2.heap.push o).get? b=some ob→h₁.get? b=some ob) :
  Inv (Vw X Nc scope cl (s2.heap.push o).objs.size { s2 with heap:=s2.heap.push o } H2 (s2.heap.objs.size :: fp)) [] (List.replicate xs.length none ++ capS cap σ) H2 { s2 with heap:=h₁,toks:=tk }:=by
 have hC:(s2.heap.push o).objs.size=s2.heap.objs.size + 1:=Heap.size_push ..
 have old2:∀ b ob,s2.heap.get? b=some ob→h₁.get? b=some ob:=fun b ob e=>old b ob (Heap.get?_push_of_some _ e)
 have hfr:∀ b,s2.heap.objs.size≤b→H2 b=none:=fun b hb=>I2.hok.fresh hb
 have cellLt:∀ y c,X.env.cells.lookup y=some c→c < s2.heap.objs.size:=fun y c e=>let ⟨v,q⟩:=I2.cell y c e; q.lt
 have fpLt:∀ b∈fp,b < s2.heap.objs.size:=fun b hb=>let ⟨ob,e,_⟩:=Tn.obj 0 s2.heap st2 b hb; Heap.lt_size e
 have kinds:∀ y,((compEnvC scope cl (s2.heap.push o).objs.size X.env).kindOf y=some .cell∨(compEnvC scope cl (s2.heap.push o).objs.size X.env).kindOf y=some .free)→scope.names.lookup y=some .free∨scope.names.lookup y=some .cell:=fun y hy=>by
  rcases hy with hy | hy
  ·rcases relabel_lookup (env:=X.env) (show (scope.names.map _).lookup y=some .cell from hy) with z | ⟨_,z⟩
   ·exact .inr z
   ·exact .inl z
  ·rcases relabel_lookup (env:=X.env) (show (scope.names.map _).lookup y=some .free from hy) with z | ⟨z,_⟩
   ·exact .inl z
   ·cases z
 refine ⟨⟨I2.ok.mod,T.kind,I2.ok.glob,I2.ok.blt,Nat.le_refl _,hcl1,fun y hy=>?_,fun y c h h2=>?cab,I2.ok.hd,I2.ok.frames,.inl rfl,fun b hb=>?_,fun b ob e=>?_,?_,fun b ob e hb=>?_,fun b hb hf=>?_,?_,fun b hb=>I2.stkFree b hb⟩,
  rfl,I2.bare,Un.kept old,⟨m,hns,fun i y v h1 h2 h3=>?_⟩,fun y c h=>?_,hfr _ (by show s2.heap.objs.size≤(s2.heap.push o).objs.size; omega),fun y c h=>?freeC,fun p hp=>absurd (show p∈([]:List (Addr×Obj)) from hp) (by simp),I2.hok.kept old2,?_,I2.hh⟩
 case cab =>
  have h:scope.names.lookup y=some .cell:=eq_of_beq h
  rcases hcl y c h2 with ⟨z,_⟩ | ⟨_,z,_⟩
  ·exact absurd h z
  ·exact Nat.le_of_lt z
 case freeC =>
  rcases hcl y c h with ⟨_,z⟩ | ⟨_,z,_⟩
  ·exact I2.freeC y c z
  ·exact hfr c (by omega)
 ·rcases kinds y hy with z | z
  ·exact Option.isSome_iff_exists.mp (hcl2 _ (PySem.mem_of_lookup z) (.inl rfl))
  ·exact Option.isSome_iff_exists.mp (hcl2 _ (PySem.mem_of_lookup z) (.inr rfl))
 ·refine ⟨?_,fun y c h z=>?_⟩
  ·show b≠(s2.heap.push o).objs.size
   rcases List.mem_cons.mp hb with rfl | hb
   ·exact Nat.ne_of_lt (by rw [hC]; exact Nat.lt_succ_self _)
   ·exact Nat.ne_of_lt (by rw [hC]; exact Nat.lt_succ_of_lt (fpLt b hb))
  ·rcases hcl y c h with ⟨_,w⟩ | ⟨_,w,_⟩
   ·have hc:=cellLt y c w
    subst z
    rcases List.mem_cons.mp hb with rfl | hb
    ·exact Nat.lt_irrefl _ hc
    ·exact (f2 _ hb).2.2.2.2.1 y _ w rfl
   ·subst z
    rcases List.mem_cons.mp hb with rfl | hb
    ·omega
    ·exact Nat.lt_irrefl _ (Nat.lt_trans (fpLt _ hb) (Nat.lt_trans (by rw [hC]; exact Nat.lt_succ_self _) w))
 ·have:=I2.bs b ob e
  exact ⟨Heap.get?_push_of_some _ this.1,this.2⟩
 ·show X.base.objs.size≤(s2.heap.push o).objs.size
  have:=Nat.le_trans I2.ok.bsz I2.sz
  omega
 ·have h1:=(I2.bs b ob e).1
  rcases List.mem_cons.mp hb with rfl | hb
  ·exact Nat.lt_irrefl _ (Heap.lt_size h1)
  ·rcases (f2 b hb).2.2.2.1 with z | z
   ·exact I2.ok.noex b ob e z
   ·have h3:b < X.base.objs.size:=Heap.lt_size e
    have h4:=I2.ok.bsz
    exact absurd (Nat.lt_of_lt_of_le h3 (Nat.le_trans h4 z)) (Nat.lt_irrefl _)
 ·show False
  rcases List.mem_cons.mp hb with rfl | hb
  ·obtain ⟨_,ob,e,_⟩:=I2.stack.mem hf
   exact Nat.lt_irrefl _ (Heap.lt_size e)
  ·rcases List.mem_cons.mp (I2.stkSub b hf) with z | z
   ·exact (f2 b hb).2.1 z
   ·exact (f2 b hb).2.2.1 z
 ·exact (I2.stack:s2.heap.FunFrames X.base X.stack).of_keeps (fun b ob e _=>⟨ob,Heap.get?_push_of_some _ e,rfl⟩)
 ·by_cases hix:i < xs.length
  ·rw [List.getElem?_append_left (by simpa using hix),List.getElem?_replicate] at h2
   split at h2 <;> cases h2
  ·obtain ⟨j,rfl⟩:∃ j,i=xs.length + j:=⟨i - xs.length,by omega⟩
   obtain ⟨i',e1,e2,e3⟩:=T.caps j y h1
   have hv:σ[i']? = some (some v):=by
    have h2':(capS cap σ)[j]? = some (some v):=by
     rw [List.getElem?_append_right (by simp)] at h2
     simpa using h2
    unfold capS at h2'
    rw [List.getElem?_map,e1] at h2'
    simp only [Option.map_some,Option.some.injEq] at h2'
    cases q:σ[i']? with
    | none=>rw [q] at h2'; cases h2'
    | some w'=>rw [q] at h2'; simp only [Option.join_some] at h2'; rw [h2']
   obtain ⟨mo,hno,hlo⟩:=I2.loc
   have hk:=T.free _ (PySem.mem_of_lookup e3) rfl
   have vis:Vis X.env.scope y:=by rcases hk with k | k; exact .inr (.inl k); exact .inr (.inr k)
   obtain ⟨u,r,l⟩:=hlo i' y v e2 hv vis
   refine ⟨u,r,.inr ⟨?_,?_⟩⟩
   ·exact (relabel_free (env:=X.env) e3).symm
   ·rcases l with ⟨k,_⟩ | ⟨_,c,e,z⟩
    ·rcases hk with k' | k' <;> (rw [k] at k'; cases k')
    ·obtain ⟨c',ec⟩:=Option.isSome_iff_exists.mp (hcl2 _ (PySem.mem_of_lookup e3) (.inl rfl))
     have ew:X.env.cells.lookup y=some c':=by
      rcases hcl y c' ec with ⟨_,w⟩ | ⟨w,_⟩
      ·exact w
      ·rw [e3] at w; cases w
     have e':some c=some c':=e.symm.trans ew
     cases e'
     obtain ⟨oc,q1,q2⟩:=z
     exact ⟨c,ec,oc,old2 _ _ q1,q2⟩
 ·rcases hcl y c h with ⟨_,w⟩ | ⟨_,_,w⟩
  ·obtain ⟨v,oc,q1,q2⟩:=I2.cell y c w
   exact ⟨v,oc,old2 _ _ q1,q2⟩
  ·exact ⟨none,w⟩
 ·show (List.replicate xs.length none ++ capS cap σ).length=Nc.length
  rw [T.len]
  simp [capS]
theorem comp_back (I2:Inv X pins σ H2 s2) (f2:∀ b∈fp,FpOk X pins H2 b) {o:Obj} {σ':St} {H:Hp} {s':Shared} {pins':List (Addr×Obj)} {vs:List V} {h':Heap}
  (I:Inv (Vw X Nc scope cl (s2.heap.push o).objs.size { s2 with heap:=s2.heap.push o } H2 (s2.heap.objs.size :: fp)) pins' σ' H s') (hD:H s2.heap.objs.size=none) (hz:vs.length≤sizeLine) (hl:listAt s'.heap s2.heap.objs.size vs)
  (hs:Heap.SameBut (s2.heap.push o).objs.size s'.heap h'):Inv X pins σ (upd H s2.heap.objs.size (.lst vs)) { s' with heap:=h' }:=by
 have hC:(s2.heap.push o).objs.size=s2.heap.objs.size + 1:=Heap.size_push ..
 have hk:∀ b ob,b≠(s2.heap.push o).objs.size→s'.heap.get? b=some ob→h'.get? b=some ob:=fun b ob hb e=>(hs.2 b hb).trans e
 have B:Un (frs X.stack) (s2.heap.objs.size :: fp) H2 H (s2.heap.push o) s'.heap:=I.base
 have low:∀ b ob,s2.heap.get? b=some ob→b≠s2.heap.objs.size∧b≠(s2.heap.push o).objs.size:=fun b ob e=>by
  have:=Heap.lt_size e
  exact ⟨Nat.ne_of_lt this,Nat.ne_of_lt (by rw [hC]; exact Nat.lt_succ_of_lt this)⟩
 have nin:∀ b ob,s2.heap.get? b=some ob→b ∉ fp→b ∉ s2.heap.objs.size :: fp:=fun b ob e h z=>(List.mem_cons.mp z).elim (low b ob e).1 h
 refine I2.call' (ch:=fp) I.os ⟨fun b ob e n hf he=>?_,fun b ob e n hf he=>?_,fun b ob e n he=>?_,fun b ob e he=>?_,fun b xs e=>?_,fun b ob u e=>?_,fun b ps e=>?_⟩ ?_ I.bare fun b hb=>⟨(f2 b hb).2.2.2.1,(f2 b hb).2.1,(f2 b hb).2.2.2.2.1,(f2 b hb).2.2.2.2.2⟩
 ·exact hk b ob (low b ob e).2 (B.keep b ob (Heap.get?_push_of_some _ e) n hf (nin b ob e he))
 ·obtain ⟨sl,q⟩:=B.slot b ob (Heap.get?_push_of_some _ e) n hf (nin b ob e he)
  exact ⟨sl,hk b _ (low b ob e).2 q⟩
 ·rw [Va (low b ob e).1]
  exact B.free b ob (Heap.get?_push_of_some _ e) n (nin b ob e he)
 ·obtain ⟨o',q⟩:=B.there b ob (Heap.get?_push_of_some _ e) (nin b ob e he)
  exact ⟨o',hk b _ (low b ob e).2 q⟩
 ·have q:=B.tups b xs e
  rw [Va (Xe q hD)]; exact q
 ·have q:=B.frzs b ob u e
  rw [Va (Xe q hD)]; exact q
 ·obtain ⟨more,q⟩:=B.tbls b ps e
  exact ⟨more,by rw [Va (Xe q hD)]; exact q⟩
 ·intro b ob e
  have hCn:H (s2.heap.push o).objs.size=none:=I.free
  by_cases hb:b=s2.heap.objs.size
  ·subst hb
   rw [Wb] at e
   cases e
   obtain ⟨its,n,r,q⟩:=hl
   exact ⟨hz,its,n,r,hk _ _ (Nat.ne_of_lt (by rw [hC]; exact Nat.lt_succ_self _)) q⟩
  ·rw [Va hb] at e
   refine (I.hok b ob e).stay (fun c u hc q=>hk c u ?_ q) (fun c q=>?_) fun c xs q=>?_
   ·rintro rfl
    rcases hc with rfl | hc
    ·rw [hCn] at e; cases e
    ·rw [hCn] at hc; cases hc
   ·rw [Va (Xe q hD)]; exact q
   ·rw [Va (Xe q hD)]; exact q
theorem comp_run (T:CompTxt X xs scope Nc cap) (hcl:∀ y c,cl.lookup y=some c→X.env.cells.lookup y=some c) (hcl2:∀ y∈scope.names,y.2 = .free→(cl.lookup y.1).isSome=true)
  (I2:Inv X pins σ H2 s2) (st2:tn 0 s2.heap) (Tn:Turn X.calm X.prog X.w X.K tg J fp it tn) (f2:∀ b∈fp,FpOk X pins H2 b)
  (hG:∀ cl C s H ex,PG (Vw X Nc scope cl C s H ex) tg gt) (hT:∀ cl C s H ex,PIf (Vw X Nc scope cl C s H ex) ifs tt) (hE:∀ cl C s H ex,PE (Vw X Nc scope cl C s H ex) elt te)
  (W:Nat→Nat→List V→St→Hp→Prop) {m0:Nat} (w0:W 0 m0 [] (List.replicate xs.length none ++ capS cap σ) H2) {Fn:List V→Hp→Prop}
  (turn:∀ i m vs σc H,W i m vs σc H→(vs.length≤sizeLine∧J.stop i H∧Fn vs H) ∨
   (J.go i H∧vs.length < sizeLine∧∀ x H',J.yld i H x H'→gt x σc H' fun σ2 H2=>tt σ2 H2 fun b H3 =>
    if b=true then te σ2 H3 fun v H4=>∃ m',m' < m∧W (i + 1) m' (vs ++ [v]) σ2 H4 else ∃ m',m' < m∧W (i + 1) m' vs σ2 H3))
  {E:Value→Shared→Prop} {RR:Value→Addr→Result→Shared→Prop}
  (fin:∀ (C:Addr) (vs:List V) (H:Hp) (s':Shared) (m:Str→Option Value),s2.heap.objs.size < C→H C=none→s'.heap.Ns C m→H s2.heap.objs.size=none→Fn vs H →
   (∀ h',Heap.SameBut C s'.heap h'→Inv X pins σ (upd H s2.heap.objs.size (.lst vs)) { s' with heap:=h' })→RR (.ref s2.heap.objs.size) C (.ok .next) s') :
  wpAny (model X.prog X.w) X.A (newList []) (fun acc s₃=>wpAny (model X.prog X.w) X.A (newFunctionEnv scope X.env.globals cl [] X.env.qual none .none (some X.env)) (fun cenv s₄ =>
   codeAny (model X.prog X.w) X.A (.compStart (.ListComp elt [⟨tg,iter,ifs,0⟩] scope pos) 0 (.ref it) acc { cenv with scope:=relabel scope X.env }) (RR acc cenv.locals) s₄) E s₃) E s2:=by
 refine wpAny_newObj_type (Wa5 ?_)
 generalize hcf:cellsFrom ((s2.heap.push { cls:=.type "list",dict:=none,data:=.seq ([]:List Value).toArray }).objs.size + 1) scope.names cl=cf
 generalize hh₁:pushCells ((s2.heap.push { cls:=.type "list",dict:=none,data:=.seq ([]:List Value).toArray }).push { cls:=.type "dict",data:=.dict #[] }) scope.names=h₁
 have hns₁:h₁.Ns (s2.heap.push { cls:=.type "list",dict:=none,data:=.seq ([]:List Value).toArray }).objs.size (fun _=>none):=by
  rw [← hh₁]; exact (Heap.Ns.new _ (.type "dict")).keeps (pushCells_keeps _ _)
 have hsz:(s2.heap.push { cls:=.type "list",dict:=none,data:=.seq ([]:List Value).toArray }).objs.size=s2.heap.objs.size + 1:=Heap.size_push ..
 have oldC:∀ b ob,(s2.heap.push { cls:=.type "list",dict:=none,data:=.seq ([]:List Value).toArray }).get? b=some ob→h₁.get? b=some ob:=fun b ob e=>by
  rw [← hh₁]; exact pushCells_keeps _ _ b ob (Heap.get?_push_of_some _ e)
 have e2s:((s2.heap.push { cls:=.type "list",dict:=none,data:=.seq ([]:List Value).toArray }).push { cls:=.type "dict",data:=.dict #[] }).objs.size=(s2.heap.push { cls:=.type "list",dict:=none,data:=.seq ([]:List Value).toArray }).objs.size + 1:=Heap.size_push ..
 have own:=cellsFrom_ok scope.names ((s2.heap.push { cls:=.type "list",dict:=none,data:=.seq ([]:List Value).toArray }).push { cls:=.type "dict",data:=.dict #[] }) ((s2.heap.push { cls:=.type "list",dict:=none,data:=.seq ([]:List Value).toArray }).objs.size + 1) [] ⟨fun _ _ hm=>(nomatch hm),List.Pairwise.nil⟩ (by rw [e2s]; exact Nat.le_refl _)
 rw [e2s,hh₁] at own
 rw [Wk] at hcf
 generalize how:cellsFrom ((s2.heap.push { cls:=.type "list",dict:=none,data:=.seq ([]:List Value).toArray }).objs.size + 1) scope.names []=ow at own hcf
 have lk:∀ y c,cf.lookup y=some c→(scope.names.lookup y≠some .cell∧cl.lookup y=some c)∨(ow.lookup y=some c):=fun y c h=>by
  rw [← hcf,List.lookup_append] at h
  cases q:ow.lookup y with
  | some c'=>rw [q] at h; exact .inr h
  | none =>
   rw [q] at h
   refine .inl ⟨fun z=>?_,h⟩
   have:=Zx scope.names ((s2.heap.push { cls:=.type "list",dict:=none,data:=.seq ([]:List Value).toArray }).objs.size + 1) y (PySem.mem_of_lookup z)
   rw [how,q] at this
   cases this
 have owC:∀ y c,ow.lookup y=some c→scope.names.lookup y=some .cell∧(s2.heap.push { cls:=.type "list",dict:=none,data:=.seq ([]:List Value).toArray }).objs.size < c∧h₁.IsCell c none:=fun y c h=>by
  have hm:=PySem.mem_of_lookup h
  have h2:=Wac scope.names _ y c (by rw [how]; exact hm)
  exact ⟨T.cells _ h2 rfl,(own.empty y c hm).2,(own.empty y c hm).1⟩
 have cellLt:∀ y c,X.env.cells.lookup y=some c→c < s2.heap.objs.size:=fun y c e=>let ⟨v,q⟩:=I2.cell y c e; q.lt
 have hcl:∀ y c,cf.lookup y=some c→(scope.names.lookup y≠some .cell∧X.env.cells.lookup y=some c)∨(scope.names.lookup y=some .cell∧(s2.heap.push { cls:=.type "list",dict:=none,data:=.seq ([]:List Value).toArray }).objs.size < c∧h₁.IsCell c none):=fun y c h =>
  (lk y c h).imp (fun z=>⟨z.1,hcl y c z.2⟩) (owC y c)
 have hcl1:∀ y z c,cf.lookup y=some c→cf.lookup z=some c→y=z:=fun y z c h1 h2=>by
  rcases lk y c h1 with ⟨a1,a2⟩ | a <;> rcases lk z c h2 with ⟨b1,b2⟩ | b
  ·rcases hcl y c h1 with ⟨_,w1⟩ | ⟨w1,_⟩
   ·rcases hcl z c h2 with ⟨_,w2⟩ | ⟨w2,_⟩
    ·exact I2.ok.inj y z c w1 w2
    ·exact absurd w2 b1
   ·exact absurd w1 a1
  ·rcases hcl y c h1 with ⟨_,w1⟩ | ⟨w1,_⟩
   ·exact (Nat.lt_irrefl _ (Nat.lt_trans (cellLt y c w1) (Nat.lt_trans (by rw [hsz]; exact Nat.lt_succ_self _) (owC z c b).2.1))).elim
   ·exact absurd w1 a1
  ·rcases hcl z c h2 with ⟨_,w1⟩ | ⟨w1,_⟩
   ·exact (Nat.lt_irrefl _ (Nat.lt_trans (cellLt z c w1) (Nat.lt_trans (by rw [hsz]; exact Nat.lt_succ_self _) (owC y c a).2.1))).elim
   ·exact absurd w1 b1
  ·exact PySem.name_of_addr own.apart (PySem.mem_of_lookup a) (PySem.mem_of_lookup b)
 have hcl2:∀ y∈scope.names,(y.2 = .free∨y.2 = .cell)→(cf.lookup y.1).isSome=true:=fun y hy hk=>by
  rw [← hcf,List.lookup_append]
  rcases hk with hk | hk
  ·obtain ⟨c,e⟩:=Option.isSome_iff_exists.mp (hcl2 y hy hk)
   rw [e]
   cases ow.lookup y.1 <;> rfl
  ·have:=Zx scope.names ((s2.heap.push { cls:=.type "list",dict:=none,data:=.seq ([]:List Value).toArray }).objs.size + 1) y.1 (by rw [← hk]; exact hy)
   rw [how] at this
   obtain ⟨c,e⟩:=Option.isSome_iff_exists.mp this
   rw [e]; rfl
 clear lk owC own how hcf
 dsimp only at hns₁ ⊢
 have I0:=comp_start (o:={ cls:=.type "list",dict:=none,data:=.seq ([]:List Value).toArray }) (tk:=s2.toks) T hcl hcl1 hcl2 I2 st2 Tn f2 (by intro v z; cases z) hns₁ oldC
 have st1:tn 0 h₁:=Tn.keep 0 _ _ st2 fun b _ ob e=>oldC b ob (Heap.get?_push_of_some _ e)
 have hD0:listAt h₁ s2.heap.objs.size []:=⟨[],0,.nil,oldC _ _ (Heap.get?_push_size _ rfl)⟩
 have fpF:∀ {H:Hp} {pn:List (Addr×Obj)},(∀ b∈fp,H b=none)→(∀ p∈pn,p.1 ∉ fp)→∀ b∈fp,FpOk (Vw X Nc scope cf (s2.heap.push { cls:=.type "list",dict:=none,data:=.seq ([]:List Value).toArray }).objs.size { s2 with heap:=s2.heap.push { cls:=.type "list",dict:=none,data:=.seq ([]:List Value).toArray } } H2 (s2.heap.objs.size :: fp)) pn H b:=fun {H pn} hn hp b hb=>by
  have hlt:b < s2.heap.objs.size:=let ⟨ob,e,_⟩:=Tn.obj 0 s2.heap st2 b hb; Heap.lt_size e
  refine ⟨hn b hb,?_,fun z=>?_,.inl (List.mem_cons_of_mem _ hb),fun y c h=>?_,fun p hpp=>?_⟩
  ·exact Nat.ne_of_lt (by show b < (s2.heap.push _).objs.size; rw [hsz]; exact Nat.lt_succ_of_lt hlt)
  ·rcases List.mem_cons.mp (I2.stkSub b z) with z | z
   ·exact (f2 b hb).2.1 z
   ·exact (f2 b hb).2.2.1 z
  ·rcases hcl y c h with ⟨_,w⟩ | ⟨_,w,_⟩
   ·exact (f2 b hb).2.2.2.2.1 y c w
   ·exact Nat.ne_of_gt (Nat.lt_trans hlt (by omega))
  ·rcases List.mem_append.mp hpp with q | q
   ·exact absurd (show p∈([]:List (Addr×Obj)) from q) (by simp)
   ·exact fun z=>hp p q (z ▸ hb)
 have loop:codeAny (model X.prog X.w) X.A (.compLoop (.ListComp elt [⟨tg,iter,ifs,0⟩] scope pos) 0 (.ref it) (.ref s2.heap.objs.size) (compEnvC scope cf (s2.heap.push { cls:=.type "list",dict:=none,data:=.seq ([]:List Value).toArray }).objs.size X.env))
   (RR (.ref s2.heap.objs.size) (s2.heap.push { cls:=.type "list",dict:=none,data:=.seq ([]:List Value).toArray }).objs.size) { s2 with heap:=h₁,toks:=s2.toks }:=by
  generalize hX:Vw X Nc scope cf (s2.heap.push { cls:=.type "list",dict:=none,data:=.seq ([]:List Value).toArray }).objs.size { s2 with heap:=s2.heap.push { cls:=.type "list",dict:=none,data:=.seq ([]:List Value).toArray } } H2 (s2.heap.objs.size :: fp)=X' at I0 fpF
  have eP:X'.prog=X.prog:=by rw [← hX]; rfl
  have ew:X'.w=X.w:=by rw [← hX]; rfl
  have eK:X'.K=X.K:=by rw [← hX]; rfl
  have eA:X'.A=X.A:=by rw [← hX]; rfl
  have ec:X'.calm=X.calm:=by rw [← hX]; rfl
  have eN:X'.N=Nc:=by rw [← hX]; rfl
  have ee:X'.env=compEnvC scope cf (s2.heap.push { cls:=.type "list",dict:=none,data:=.seq ([]:List Value).toArray }).objs.size X.env:=by rw [← hX]; rfl
  have ex:X'.xe=fun _ _=>False:=by rw [← hX]; rfl
  have eX:X'.ex=s2.heap.objs.size :: fp:=by rw [← hX]; rfl
  have hT':PIf X' ifs tt:=by rw [← hX]; exact hT _ _ _ _ _
  have hE':PE X' elt te:=by rw [← hX]; exact hE _ _ _ _ _
  have hG':PG X' tg gt:=by rw [← hX]; exact hG _ _ _ _ _
  have back:∀ {σ':St} {H:Hp} {s':Shared} {pins':List (Addr×Obj)} {vs:List V} {h':Heap},Inv X' pins' σ' H s'→H s2.heap.objs.size=none→vs.length≤sizeLine→listAt s'.heap s2.heap.objs.size vs →
    Heap.SameBut (s2.heap.push { cls:=.type "list",dict:=none,data:=.seq ([]:List Value).toArray }).objs.size s'.heap h'→Inv X pins σ (upd H s2.heap.objs.size (.lst vs)) { s' with heap:=h' }:=by
   intro σ' H s' pins' vs h' I
   rw [← hX] at I
   exact comp_back I2 f2 I
  have Dex:s2.heap.objs.size∈X'.ex∨X'.s₀.heap.objs.size≤s2.heap.objs.size:=.inl (by rw [eX]; exact List.mem_cons_self)
  have DnL:s2.heap.objs.size≠X'.env.locals:=by rw [ee]; exact Nat.ne_of_lt (by show _ < (s2.heap.push _).objs.size; rw [hsz]; exact Nat.lt_succ_self _)
  have DnC:∀ y c,X'.env.cells.lookup y=some c→c≠s2.heap.objs.size:=fun y c h=>by
   rw [ee] at h
   rcases hcl y c h with ⟨_,w⟩ | ⟨_,w,_⟩
   ·exact Nat.ne_of_lt (cellLt y c w)
   ·exact Nat.ne_of_gt (by omega)
  have DnF:s2.heap.objs.size ∉ X'.fs:=fun z=>by
   rw [← hX] at z
   obtain ⟨_,ob,e,_⟩:=I2.stack.mem (show s2.heap.objs.size∈frs X.stack from z)
   exact Nat.lt_irrefl _ (Heap.lt_size e)
  have Dfp:s2.heap.objs.size ∉ fp:=fun hb=>by
   obtain ⟨ob,e,_⟩:=Tn.obj 0 s2.heap st2 _ hb
   exact Nat.lt_irrefl _ (Heap.lt_size e)
  have pn0:X'.pn=[]:=by rw [← hX]; rfl
  rw [← ee]
  refine comp_loopT (fun n s=>∃ i vs H σ0,Inv X' [] σ0 H s∧tn i s.heap∧(∀ b∈fp,H b=none)∧H s2.heap.objs.size=none∧listAt s.heap s2.heap.objs.size vs∧W i n vs σ0 H) ?_ m0
   ⟨0,[],H2,_,I0,st1,fun b hb=>(f2 b hb).1,I2.hok.fresh (Nat.le_refl _),hD0,w0⟩
  rintro n s ⟨i,vs,H,σ0,I,st,hf,hDn,⟨its,k,rv,eD⟩,w1⟩
  have pinned:Inv X' [(s2.heap.objs.size,({ cls:=.type "list",data:=.seq its.toArray k }:Obj))] σ0 H s:=I.pins_of fun p hp=>by
   obtain rfl:=List.mem_singleton.mp hp
   exact ⟨eD,hDn,DnL,DnF,fun v z=>by cases z⟩
  have fpp:∀ p∈[(s2.heap.objs.size,({ cls:=.type "list",data:=.seq its.toArray k }:Obj))],p.1 ∉ fp:=fun p hp=>by
   obtain rfl:=List.mem_singleton.mp hp
   exact Dfp
  rcases turn i n vs σ0 H w1 with ⟨hz,stop,fn⟩ | ⟨go,hz,step⟩
  ·have dn:=Tn.done X' eP ew eK ec i _ s _ H (notedBy (model X.prog X.w) X.A X'.env fun e s'=>RR (.ref s2.heap.objs.size) (s2.heap.push { cls:=.type "list",dict:=none,data:=.seq ([]:List Value).toArray }).objs.size (.error e) s') pinned (fpF hf fpp) st stop
   rw [eA] at dn
   refine thn dn fun r s1 ⟨hr,J1⟩=>?_
   subst hr
   have pD:=J1.pin (s2.heap.objs.size,({ cls:=.type "list",data:=.seq its.toArray k }:Obj)) (by rw [pn0]; simp)
   obtain ⟨mC,hnC,_⟩:=J1.loc
   rw [ee] at hnC
   have fC:=J1.free
   rw [ee] at fC
   refine fin _ vs H s1 mC (by rw [hsz]; exact Nat.lt_succ_self _) fC hnC hDn fn fun h' hs=>back J1 hDn hz ⟨its,k,rv,pD.1⟩ hs
  ·have im:=Tn.item X' eP ew eK ec i _ s _ H (notedBy (model X.prog X.w) X.A X'.env fun e s'=>RR (.ref s2.heap.objs.size) (s2.heap.push { cls:=.type "list",dict:=none,data:=.seq ([]:List Value).toArray }).objs.size (.error e) s') pinned (fpF hf fpp) st go
   rw [eA] at im
   refine thn im fun r s1 ⟨u,hr,h1⟩=>?_
   subst hr
   dsimp only
   refine thn h1 fun _ s3 ⟨y,H3,I3,r3,y3,st3,fr3⟩=>?_
   have I3':=I3.pinned (fpF fr3 fpp) (Tn.obj _ _ st3)
   have g:=hG' _ s3 _ H3 y u _ I3' r3 (step y H3 y3)
   rw [eP,ew,eA,ex] at g
   refine wpAny_mono g (fun _ s4 ⟨σ4,H4,I4,q4⟩=>?_) fun _ _ z=>z.elim
   have t:=hT' _ s4 _ H4 _ I4 q4
   rw [eP,ew,eA,ex] at t
   have tk':∀ {pl:List (Addr×Obj)} {σ':St} {H':Hp} {s':Shared},Inv X' (pl ++ Xav fp s3.heap) σ' H' s'→tn (i + 1) s'.heap∧∀ b∈fp,H' b=none:=fun {pl σ' H' s'} J=>by
    refine ⟨Tn.keep _ _ _ st3 fun b hb o e=>(J.pin (b,o) (List.mem_append_right _ (List.mem_append_right _ (Wq hb e)))).1,fun b hb=>?_⟩
    obtain ⟨o,e,d⟩:=Tn.obj _ _ st3 b hb
    exact (J.pin (b,o) (List.mem_append_right _ (List.mem_append_right _ (Wq hb e)))).2.1
   refine wpAny_mono t (fun b s5 ⟨H5,I5,q5⟩=>?_) fun _ _ z=>z.elim
   cases b with
   | false =>
    rw [if_neg Bool.false_ne_true] at q5 ⊢
    obtain ⟨m',hm,w5⟩:=q5
    obtain ⟨st5,fr5⟩:=tk' I5
    have pD:=I5.pin (s2.heap.objs.size,({ cls:=.type "list",data:=.seq its.toArray k }:Obj)) (by simp)
    exact ⟨m',hm,i + 1,vs,H5,σ4,I5.pins_of (fun p hp=>nomatch hp),st5,fr5,pD.2.1,⟨its,k,rv,pD.1⟩,w5⟩
   | true =>
    rw [if_pos rfl] at q5 ⊢
    have ev:=hE' _ s5 _ H5 _ I5 q5
    rw [eP,ew,eA,ex] at ev
    refine wpAny_mono ev (fun z s6 ⟨v,H6,I6,r6,q6⟩=>?_) fun _ _ z=>z.elim
    obtain ⟨m',hm,w6⟩:=q6
    obtain ⟨st6,fr6⟩:=tk' I6
    have pD:=I6.pin (s2.heap.objs.size,({ cls:=.type "list",data:=.seq its.toArray k }:Obj)) (by simp)
    have hlen:=rv.length
    refine call_meets F.slot_list_append ⟨_,pD.1,rfl⟩ F.entry_list_append (F.args_list_append_2 _ _) (PySem.list_append s2.heap.objs.size its.toArray k z (by rw [List.size_toArray]; omega)) ⟨pD.1,?_⟩
    have q:=PySem.IsL.update pD.1 (fun a=>a.push z)
    dsimp only at q
    rw [show its.toArray.push z=(its ++ [z]).toArray by simp] at q
    have kk:∀ b o,b≠s2.heap.objs.size→s6.heap.get? b=some o→(s6.heap.update s2.heap.objs.size (Obj.mapSeq fun a=>a.push z)).get? b=some o:=fun b o hb e=>(Heap.get?_update_other s6.heap _ (Ne.symm hb)).trans e
    have I7:Inv X' [] σ4 H6 { s6 with heap:=s6.heap.update s2.heap.objs.size (Obj.mapSeq fun a=>a.push z),toks:=s6.toks }:=(I6.pins_of (pins':=[]) (fun p hp=>nomatch hp)).turned kk pD.2.1 DnL Dex DnC (fun p hp=>by
     rw [pn0] at hp; exact absurd hp (by simp))
    refine ⟨m',hm,i + 1,vs ++ [v],H6,σ4,I7,Tn.keep _ _ _ st6 (fun b hb o e=>kk b o (fun zz=>Dfp (zz ▸ hb)) e),fr6,pD.2.1,⟨its ++ [z],_,rv.append (.cons r6 .nil),q⟩,w6⟩
 exact codeAny_compStart_list loop (Tn.self _ 0 _ _ _ st1 loop)
end
end L2
namespace L2
open PySem PySem.Spec PyProof.Rows
section
variable {X:Cx} {elt iter tg:Expr} {xs:List Str} {gt:TG} {ifs:List Expr} {scope:Scope} {pos:Pos} {Nc:List Str} {cap:List Nat} {tt:TT} {te:TE} {wi:TI}
theorem Ya0 {pins:List (Addr×Obj)} {s:Shared} {σ:St} {H:Hp} (T:CompTxt X xs scope Nc cap) (I:Inv X pins σ H s):∃ cl,closureFor scope X.env=pure cl∧(∀ y c,cl.lookup y=some c→X.env.cells.lookup y=some c)∧∀ y∈scope.names,y.2 = .free→(cl.lookup y.1).isSome=true :=
 Xac fun y hy hf=>I.ok.has y.1 (T.free y hy hf)
theorem pe_comp (T:CompTxt X xs scope Nc cap) (hi:PI X tg iter wi) (hG:∀ cl C s H ex,PG (Vw X Nc scope cl C s H ex) tg gt) (hT:∀ cl C s H ex,PIf (Vw X Nc scope cl C s H ex) ifs tt) (hE:∀ cl C s H ex,PE (Vw X Nc scope cl C s H ex) elt te)
  (hs:∀ v,foldedSetIterable iter X.env v=pure v):PE X (.ListComp elt [⟨tg,iter,ifs,0⟩] scope pos) (tComp xs.length gt cap wi tt te):=by
 intro pins s σ H Q I h
 rw [eval_ListComp]
 obtain ⟨cl,e1,e2,e3⟩:=Ya0 T I
 refine wpAny_comprehension_free (use:=none) rfl hs e1 T.kind T.names (thn (hi pins s σ H _ I h) fun v s1 h1=>thn h1 fun itv s2 h2=>?_)
 obtain ⟨it,fp,tn,J,H2,rfl,I2,Tn,st2,f2,W,⟨m0,w0⟩,turn⟩:=h2
 refine comp_run (RR:=fun acc C=>compPost (model X.prog X.w) X.A X.xe none (EP X pins σ Q) acc C) T e2 e3 I2 st2 Tn f2 hG hT hE W w0 turn fun C vs H' s' m hC hHC hn hD fn back=>?_
 exact ⟨m,hn,fun h' hs'=>⟨.ref _,_,back h' hs',rfl,fn _ hD⟩⟩
theorem ps_setcomp {i:Nat} {t:Str} {pt pos2:Pos} (T:CompTxt X xs scope Nc cap) (hi:PI X tg iter wi) (hG:∀ cl C s H ex,PG (Vw X Nc scope cl C s H ex) tg gt) (hT:∀ cl C s H ex,PIf (Vw X Nc scope cl C s H ex) ifs tt) (hE:∀ cl C s H ex,PE (Vw X Nc scope cl C s H ex) elt te)
  (hs:∀ v,foldedSetIterable iter X.env v=pure v) (hN:X.N.Nodup) (hti:X.N[i]? = some t) (htl:X.env.scope.names.lookup t=some .local)
  (hsw:swapsWith (.ListComp elt [⟨tg,iter,ifs,0⟩] scope pos) (some (.Name t pt)) pos2.line X.env=pure true) :
  PS X (.Assign [.Name t pt] (.ListComp elt [⟨tg,iter,ifs,0⟩] scope pos) pos2) (tAsg (tComp xs.length gt cap wi tt te) (gName i)):=by
 intro pins s σ H D I h
 rw [exec_Assign_Name_used _ _ _ _ hsw]
 obtain ⟨cl,e1,e2,e3⟩:=Ya0 T I
 refine wpAny_bind (wpAny_standAt (wpAny_bind ?_))
 show wpAny _ X.A (do let _ ← comprehension (.ListComp elt [⟨tg,iter,ifs,0⟩] scope pos) scope X.env _ (newList []) false (eval iter X.env) (some (assign (.Name t pt) X.env))) _ _ s
 refine wpAny_bind (wpAny_mono (wpAny_comprehension_free (use:=some (assign (.Name t pt) X.env)) (Q:=fun _ s'=>SP X pins D .next s') rfl hs e1 T.kind T.names
  (thn (hi pins s σ H _ I h) fun v s1 h1=>thn h1 fun itv s2 h2=>?_)) (fun _ s' q=>wpAny_pure (wpAny_pure q)) fun _ _ e=>e)
 obtain ⟨it,fp,tn,J,H2,rfl,I2,Tn,st2,f2,W,⟨m0,w0⟩,turn⟩:=h2
 refine comp_run (RR:=fun acc C=>compPost (model X.prog X.w) X.A X.xe (some (assign (.Name t pt) X.env)) (fun _ s'=>SP X pins D .next s') acc C) T e2 e3 I2 st2 Tn f2 hG hT hE W w0 turn fun C vs H' s' m hC hHC hn hD fn back=>?_
 have I3:Inv X pins σ (upd H' s2.heap.objs.size (.lst vs)) s':=back s'.heap (.refl ..)
 have hLC:X.env.locals≠C:=Nat.ne_of_lt (Nat.lt_trans I2.lt hC)
 have hDC:C≠s2.heap.objs.size:=Nat.ne_of_gt hC
 show wpAny _ X.A (assign (.Name t pt) X.env (.ref s2.heap.objs.size)) _ _ s'
 refine wpAny_assign_Name (Vat I3 hN hti (.inl htl) (v:=.ref s2.heap.objs.size) rfl (fun s4 I4 ⟨a,sb,ha⟩=>?_) (.inr htl))
 have hCa:C≠a:=by
  rcases ha with rfl | ha
  ·exact Ne.symm hLC
  ·obtain ⟨v,q⟩:=I2.cell t a ha
   exact Nat.ne_of_gt (Nat.lt_trans q.lt hC)
 refine ⟨m,hn.sameBut sb hCa,fun h' sb'=>⟨_,_,I4.turned (t':=s4.toks) (it:=C) (fun b o hb e=>(sb'.2 b hb).trans e) (by rw [Va hDC]; exact hHC) (Ne.symm hLC) (.inr ?_) (fun y c e=>?_) (fun p hp=>?_),fn _ hD⟩⟩
 ·exact Nat.le_trans I2.sz (Nat.le_of_lt hC)
 ·obtain ⟨v,q⟩:=I2.cell y c e
  exact Nat.ne_of_lt (Nat.lt_trans q.lt hC)
 ·exact Nat.ne_of_lt (Nat.lt_trans (Heap.lt_size (I2.pin p hp).1) hC)
end
end L2
end
section
set_option autoImplicit false
namespace DW
open PySem PySem.Spec PyProof.Rows L2
noncomputable def Its (z:Str):L2.It:=⟨fun i _=>i < z.cps.size,fun i H x H'=>H'=H∧∃ c,z.cps[i]? = some c∧x = .str ⟨#[c]⟩,fun i _=>z.cps.size≤i⟩
theorem Wbc {cb:Bool} (hcb:cb=true) {P:Program} {w:World} {K:PySem.W.Frag} {tg:Expr} (it:Addr) (z:Str) (t:Tok) (ty:String) (hty:ty = "str_ascii_iterator"∨ty = "str_iterator"):Turn cb P w K tg (Its z) [it] it (fun i h=>h.IsStrIter it ty z t i):=by
 have hn:["enumerate","zip","dict_itemiterator","dict_reverseitemiterator","odict_iterator","itertools.zip_longest","itertools.pairwise"].contains ty=false:=by
  rcases hty with rfl | rfl <;> decide
 have W:∀ A:Around,A.handled=none→Walks P w A it [it] [it] z.cps.size (SignAt z) (fun i h=>h.IsStrIter it ty z t i):=fun A hA=>by
  rcases hty with rfl | rfl
  ·exact Walks.strAscii hA it z t
  ·exact Walks.strWide hA it z t
 refine ⟨by simp,fun i h st b hb=>?_,fun i h h' st k=>?_,?_,?_,?_⟩
 ·obtain rfl:=List.mem_singleton.mp hb
  obtain ⟨o,e,_,d⟩:=st
  exact ⟨o,e,fun v q=>by rw [d] at q; cases q⟩
 ·obtain ⟨o,e,r⟩:=st
  exact ⟨o,k it (by simp) o e,r⟩
 ·intro X hP hw hK hc i pins s σ H E I hf st hg
  subst hP hw hK
  obtain ⟨f0,f1,f2,f3,f4,f5⟩:=hf it (by simp)
  refine (W X.A (I.ok.hd (hc.trans hcb))).item i s _ _ hg st fun v h' tk hv st' kk=>?_
  obtain ⟨c,u,e1,rfl⟩:=hv
  have I1:Inv X pins σ H { s with heap:=h',toks:=tk }:=I.turned (fun b o hb e=>kk b o (by simpa using hb) e) f0 f1 f3 f4 f5
  obtain ⟨o,e,c1,d1⟩:=id st'
  exact ⟨_,rfl,go_of (s:={ s with heap:=h',toks:=tk }) e c1 d1 hn ⟨.str ⟨#[c]⟩,H,I1,⟨u,rfl⟩,⟨rfl,c,e1,rfl⟩,st',fun b hb=>(hf b hb).1⟩⟩
 ·intro X hP hw hK hc i pins s σ H E I hf st hg
  subst hP hw hK
  obtain ⟨f0,f1,f2,f3,f4,f5⟩:=hf it (by simp)
  have hi:z.cps.size≤i:=hg
  rcases hty with rfl | rfl
  ·exact wpAny_pyNext_ascii_end (I.ok.hd (hc.trans hcb)) st (by simp [hi]) fun h' eb=>⟨rfl,I.turned (t':=s.toks) (fun b o hb e=>eb b o hb e) f0 f1 f3 f4 f5⟩
  ·exact wpAny_pyNext_wide_end (I.ok.hd (hc.trans hcb)) st (by simp [hi]) fun h' eb=>⟨rfl,I.turned (t':=s.toks) (fun b o hb e=>eb b o hb e) f0 f1 f3 f4 f5⟩
 ·intro A i s Q E st q
  rcases hty with rfl | rfl
  ·exact wpAny_pyIter_striter_ascii st q
  ·exact wpAny_pyIter_striter_wide st q
noncomputable def Za3 (K:PySem.W.Frag) (J:L2.It) (ds:List D) (g:Mem→Prop) (H0:Hp) (θ0:List Addr) (μ0:Mem):Prop :=
 ds.length≤sizeLine∧∀ (i:Nat) (H:Hp) (θ:List Addr) (μ:Mem),WOk K H θ μ→Grow H0 θ0 μ0 H θ μ→g μ →
  (i < ds.length→J.go i H∧∀ x H',J.yld i H x H'→WOk K H' θ μ∧Grow H θ μ H' θ μ∧∃ d,ds[i]? = some d∧Rp K H' θ μ d x)∧(i=ds.length→J.stop i H)
noncomputable abbrev WI:=Rho→Mem→QI→Prop
noncomputable def LI (K:PySem.W.Frag) (w:WI):TI:=fun σ H R=>∃ ρ θ μ Qi,Sim K σ H ρ θ μ∧w ρ μ Qi ∧
 ∀ ds g (J:L2.It) H' θ' μ',WOk K H' θ' μ'→Grow H θ μ H' θ' μ'→Za3 K J ds g H' θ' μ'→Qi ds g μ'→R J H'
section
variable {K:PySem.W.Frag} {H:Hp} {θ:List Addr} {μ:Mem} {ds:List D} {a:Addr} {xs:List V}
theorem Z7 (hl:ds.length≤sizeLine) (g:Mem→Prop) (h:∀ (H':Hp) (θ':List Addr) (μ':Mem),WOk K H' θ' μ'→Grow H θ μ H' θ' μ'→g μ'→∃ xs,SqL K H' a xs∧Rps K H' θ' μ' ds xs):Za3 K (Itl K a) ds g H θ μ:=by
 refine ⟨hl,fun i H' θ' μ' w' gr hg=>?_⟩
 obtain ⟨xs,hx,rs⟩:=h H' θ' μ' w' gr hg
 refine ⟨fun hi=>?_,fun hi=>⟨xs,hx,by rw [hi,rs.length]; exact Nat.le_refl _⟩⟩
 obtain ⟨v,e1,e2⟩:=rs.get (i:=i) (List.getElem?_eq_getElem hi)
 refine ⟨⟨xs,v,hx,e1⟩,fun x H'' y=>?_⟩
 obtain ⟨rfl,y⟩:=y
 have:=y xs hx
 rw [e1] at this; cases this
 exact ⟨w',Grow.refl,_,List.getElem?_eq_getElem hi,e2⟩
theorem walk_tup (hl:ds.length≤sizeLine) (g:Mem→Prop) (h:∀ (H':Hp) (θ':List Addr) (μ':Mem),WOk K H' θ' μ'→Grow H θ μ H' θ' μ'→g μ'→∃ xs,SqT K H' a xs∧Rps K H' θ' μ' ds xs):Za3 K (Itt K a) ds g H θ μ:=by
 refine ⟨hl,fun i H' θ' μ' w' gr hg=>?_⟩
 obtain ⟨xs,hx,rs⟩:=h H' θ' μ' w' gr hg
 refine ⟨fun hi=>?_,fun hi=>⟨xs,hx,by rw [hi,rs.length]; exact Nat.le_refl _⟩⟩
 obtain ⟨v,e1,e2⟩:=rs.get (i:=i) (List.getElem?_eq_getElem hi)
 refine ⟨⟨xs,v,hx,e1⟩,fun x H'' y=>?_⟩
 obtain ⟨rfl,y⟩:=y
 have:=y xs hx
 rw [e1] at this; cases this
 exact ⟨w',Grow.refl,_,List.getElem?_eq_getElem hi,e2⟩
theorem Zae {lo:Int} {n:Nat} (hn:n≤sizeLine):Za3 K (Itr lo n) (Zk lo n) (fun _=>True) H θ μ:=by
 refine ⟨by simpa [Zk] using hn,fun i H' θ' μ' w' gr _=>⟨fun hi=>?_,fun hi=>?_⟩⟩
 ·have hi':i < n:=by simpa [Zk] using hi
  refine ⟨hi',fun x H'' y=>?_⟩
  obtain ⟨rfl,rfl⟩:=y
  exact ⟨w',Grow.refl,.int (lo + (i:Int)),by simp [Zk,hi'],Yc⟩
 ·have hi':i=n:=by simpa [Zk] using hi
  show n≤i
  omega
theorem walk_str {x:List Nat} (hx:x.length≤sizeLine):Za3 K (Its ⟨x.toArray⟩) (chars x) (fun _=>True) H θ μ:=by
 refine ⟨by simpa [chars] using hx,fun i H' θ' μ' w' gr _=>⟨fun hi=>?_,fun hi=>?_⟩⟩
 ·have hi':i < x.length:=by simpa [chars] using hi
  refine ⟨by show i < x.toArray.size; simpa using hi',fun y H'' q=>?_⟩
  obtain ⟨rfl,c,e1,rfl⟩:=q
  have e1':x[i]? = some c:=by simpa using e1
  exact ⟨w',Grow.refl,.str [c],by simp [chars,e1'],Z8 (x:=[c]) (by rw [sizeLine_eq]; simp)⟩
 ·have hi':i=x.length:=by simpa [chars] using hi
  show x.toArray.size≤i
  simp [hi']
end
noncomputable def Itd (a:Addr) (o:Obj) (kvs:List (Key×V)):L2.It :=
 ⟨fun i H=>H a=some (.frz o (.dK kvs))∧i < kvs.length,fun i H x H'=>H'=H∧∃ kv,kvs[i]? = some kv∧x=kV kv.1,fun i H=>H a=some (.frz o (.dK kvs))∧kvs.length≤i⟩
theorem kv_get {κ:Type}:∀ {kvs:List (κ×V)} {vs:List (κ×Value)} {i:Nat} {kv:κ×V},KV kvs vs→kvs[i]? = some kv→∃ u,vs[i]? = some (kv.1,u)
 | _,_,i,_,.nil,e=>by simp at e
 | _,_,0,_,.cons r _,e=>by simp at e; subst e; exact ⟨_,by rw [List.getElem?_cons_zero,r.1]⟩
 | _,_,i + 1,kv,.cons _ t,e=>by
  obtain ⟨u,h1⟩:=kv_get (i:=i) (kv:=kv) t (by simpa using e)
  exact ⟨u,by simpa using h1⟩
theorem dict_at {X:Cx} {pins:List (Addr×Obj)} {σ:L2.St} {H:Hp} {s:Shared} {a:Addr} {o:Obj} {kvs:List (Key×V)} {es:Array DictEntry} {ep:Nat} (I:Inv X pins σ H s) (e:H a=some (.frz o (.dK kvs))) (hd:o.data = .dict es ep) :
  ∃ vs,KV kvs vs∧s.heap.DictAt (Vd X.prog X.w) a vs ep:=by
 obtain ⟨h1,_,_,vs,rel,o',es',ep',q1,q2,q3,q4⟩:=(show ObjOk X.prog X.w H s.heap a (.frz o (.dK kvs)) from I.hok a _ e)
 rw [h1] at q1; cases q1
 rw [hd] at q3; cases q3
 exact ⟨vs,rel,o,es,h1,q2,hd,q4⟩
theorem turn_dict {cb:Bool} (hcb:cb=true) {P:Program} {w:World} {K:PySem.W.Frag} {tg:Expr} (a it:Addr) (o:Obj) (kvs:List (Key×V)) (es:Array DictEntry) (ep:Nat) (hd:o.data = .dict es ep) :
  Turn cb P w K tg (Itd a o kvs) [it] it (fun i h=>h.IsKeyIter it a i kvs.length ep) where
 mem:=by simp
 obj:=fun i h st b hb=>by
  have e:b=it:=by simpa using hb
  subst e
  obtain ⟨o,e,c,d⟩:=st
  exact ⟨o,e,fun v z=>by rw [d] at z; cases z⟩
 keep:=fun i h h' st k=>by
  obtain ⟨o,e,c,d⟩:=st
  exact ⟨o,k it (by simp) o e,c,d⟩
 item:=by
  intro X hP hw hK hc i pins s σ H E I hf st hg
  subst hP hw hK
  obtain ⟨e,hi⟩:=hg
  obtain ⟨vs,rel,dat⟩:=dict_at I e hd
  obtain ⟨f0,f1,f2,f3,f4,f5⟩:=hf it (by simp)
  have hlen:=rel.length
  obtain ⟨u,hu⟩:=kv_get rel (List.getElem?_eq_getElem hi)
  refine wpAny_pyNext_dict_item (hlen ▸ st) dat hu fun key h' hk st' sb=>?_
  have I1:Inv X pins σ H { s with heap:=h' }:=I.turned (t':=s.toks) (fun b o hb e=>(sb.2 b hb).trans e) f0 f1 f3 f4 f5
  obtain ⟨o',e',c,d⟩:=id st'
  refine ⟨key,rfl,go_of (s:={ s with heap:=h' }) e' c d (by decide) ⟨kV (kvs[i]).1,H,I1,?_,⟨rfl,kvs[i],List.getElem?_eq_getElem hi,rfl⟩,hlen ▸ st',fun b hb=>(hf b hb).1⟩⟩
  rcases Xc hk with ⟨z,tt,e1,rfl⟩ | ⟨z,tt,e1,rfl⟩
  ·rw [e1]; exact ⟨tt,rfl⟩
  ·rw [e1]; exact ⟨tt,rfl⟩
 done:=by
  intro X hP hw hK hc i pins s σ H E I hf st hg
  subst hP hw hK
  obtain ⟨e,hi⟩:=hg
  obtain ⟨vs,rel,dat⟩:=dict_at I e hd
  obtain ⟨f0,f1,f2,f3,f4,f5⟩:=hf it (by simp)
  have hlen:=rel.length
  exact wpAny_pyNext_dict_end (I.ok.hd (hc.trans hcb)) (hlen ▸ st) dat (List.getElem?_eq_none (by omega)) fun h' eb=>⟨rfl,I.turned (t':=s.toks) (fun b o hb e=>eb b o hb e) f0 f1 f3 f4 f5⟩
 self:=fun _ _ _ _ _ st h=>wpAny_pyIter_keyiter st h
noncomputable def Itx (a:Addr) (o:Obj) (bs:List Addr):L2.It :=
 ⟨fun i H=>(∃ u,H a=some (.frz o u))∧i < bs.length,fun i H x H'=>H'=H∧∃ b,bs[i]? = some b∧x = .ref b,fun i H=>(∃ u,H a=some (.frz o u))∧bs.length≤i⟩
theorem turn_refs {cb:Bool} (hcb:cb=true) {P:Program} {w:World} {K:PySem.W.Frag} {tg:Expr} (a it:Addr) (o:Obj) (bs:List Addr) (es:Array DictEntry) (ep:Nat) (hd:o.data = .dict es ep) (hk:es.toList.map (·.key)=bs.map Value.ref) :
  Turn cb P w K tg (Itx a o bs) [it] it (fun i h=>h.IsKeyIter it a i es.size ep):=by
 have hsz:es.size=bs.length:=by have:=congrArg List.length hk; simpa using this
 refine ⟨by simp,fun i h st b hb=>?_,fun i h h' st k=>?_,?_,?_,fun _ _ _ _ _ st h=>wpAny_pyIter_keyiter st h⟩
 ·obtain rfl:=List.mem_singleton.mp hb
  obtain ⟨o,e,_,d⟩:=st
  exact ⟨o,e,fun v z=>by rw [d] at z; cases z⟩
 ·obtain ⟨o,e,c,d⟩:=st
  exact ⟨o,k it (by simp) o e,c,d⟩
 ·intro X hP hw hK hc i pins s σ H E I hf st hg
  subst hP hw hK
  obtain ⟨⟨u,e⟩,hi⟩:=hg
  obtain ⟨f0,f1,f2,f3,f4,f5⟩:=hf it (by simp)
  have ho:s.heap.get? a=some o:=(show ObjOk X.prog X.w H s.heap a (.frz o u) from I.hok a _ e).1
  have hi':i < es.size:=by omega
  have hkey:es[i].key = .ref bs[i]:=by
   have h1:(es.toList.map (·.key))[i]? = some es[i].key:=by simp [hi']
   rw [hk] at h1
   simp [hi] at h1
   exact h1.symm
  refine dit_item st ho hd hi' fun h' st' sb=>?_
  have I1:Inv X pins σ H { s with heap:=h' }:=I.turned (t':=s.toks) (fun b o hb e=>(sb.2 b hb).trans e) f0 f1 f3 f4 f5
  obtain ⟨o',e',c,d⟩:=id st'
  rw [hkey]
  exact ⟨_,rfl,go_of (s:={ s with heap:=h' }) e' c d (by decide) ⟨.ref bs[i],H,I1,rfl,⟨rfl,bs[i],List.getElem?_eq_getElem hi,rfl⟩,st',fun b hb=>(hf b hb).1⟩⟩
 ·intro X hP hw hK hc i pins s σ H E I hf st hg
  subst hP hw hK
  obtain ⟨⟨u,e⟩,hi⟩:=hg
  obtain ⟨f0,f1,f2,f3,f4,f5⟩:=hf it (by simp)
  have ho:s.heap.get? a=some o:=(show ObjOk X.prog X.w H s.heap a (.frz o u) from I.hok a _ e).1
  exact dit_end (I.ok.hd (hc.trans hcb)) st ho hd (by omega) fun h' eb=>⟨rfl,I.turned (t':=s.toks) (fun b o hb e=>eb b o hb e) f0 f1 f3 f4 f5⟩
section
variable {X:Cx} {tg:Expr}
theorem pi_seqD {l:Expr} {wl:WE} (hcl:X.calm=true) (hl:PE X l (LE X.K wl)):PI X tg l (LI X.K fun ρ μ Q=>wl ρ μ fun d μ1=>wSeq d μ1 Q):=by
 intro pins s σ H R I h
 have big:∀ (x:V) (H1:Hp) (s1:Shared),Inv X pins σ H1 s1→True:=fun _ _ _ _=>trivial
 obtain ⟨ρ,θ,μ,Qi,sm,h,f⟩:=h
 refine thn (hl pins s σ H (fun x H1=>∃ d θ1 μ1,WOk X.K H1 θ1 μ1∧Grow H θ μ H1 θ1 μ1∧Rp X.K H1 θ1 μ1 d x∧wSeq d μ1 Qi) I ⟨ρ,θ,μ,_,sm,h,fun d v H1 θ1 μ1 w1 g1 r1 h1=>⟨d,θ1,μ1,w1,g1,r1,h1⟩⟩) fun v s1 ⟨x,H1,I1,r1,d,θ1,μ1,w1,g1,rd,hq⟩=>?_
 have pe:∀ (R':L2.It→Hp→Prop),((∃ a,x = .ref a∧(∃ xs,SqL X.K H1 a xs)∧R' (Itl X.K a) H1)∨(∃ a,x = .ref a∧(∃ xs,SqT X.K H1 a xs)∧R' (Itt X.K a) H1)∨∃ z,x = .str z∧R' (Its z) H1) →
   wpAny (model X.prog X.w) X.A (pyIter v) (PIE X pins σ tg R') X.xe s1:=fun R' q1=>by
  rcases q1 with ⟨a,rfl,⟨xs,hq⟩,q⟩ | ⟨a,rfl,⟨xs,hq⟩,q⟩ | ⟨z,rfl,q⟩
  ·cases r1
   obtain ⟨its,rv,p,hz⟩:=I1.list hq
   refine wpAny_pyIter_list p.isList ?_
   refine ⟨s1.heap.objs.size,[s1.heap.objs.size],_,_,H1,rfl,I1.kept (t':=s1.toks) fun b o e=>Heap.get?_push_of_some _ e,turn_list hcl a _,⟨_,Heap.get?_push_size _ rfl,rfl,rfl⟩,fun b hb=>?_,q⟩
   obtain rfl:=List.mem_singleton.mp hb
   exact I1.fpOk (Nat.le_refl _) (I1.hok.fresh (Nat.le_refl _))
  ·cases r1
   obtain ⟨its,rv,p,hz⟩:=I1.tuple hq
   refine wpAny_pyIter_tuple (show s1.heap.IsTuple a its.toArray from p) ?_
   refine ⟨s1.heap.objs.size,[s1.heap.objs.size],_,_,H1,rfl,I1.kept (t':=s1.toks) fun b o e=>Heap.get?_push_of_some _ e,turn_tuple hcl a _,⟨_,Heap.get?_push_size _ rfl,rfl,rfl⟩,fun b hb=>?_,q⟩
   obtain rfl:=List.mem_singleton.mp hb
   exact I1.fpOk (Nat.le_refl _) (I1.hok.fresh (Nat.le_refl _))
  ·obtain ⟨t,rfl⟩:=r1
   have fp:∀ b∈[s1.heap.objs.size],FpOk X pins H1 b:=fun b hb=>by
    obtain rfl:=List.mem_singleton.mp hb
    exact I1.fpOk (Nat.le_refl _) (I1.hok.fresh (Nat.le_refl _))
   cases ha:z.cps.all (· < 128) with
   | false =>
    refine wpAny_pyIter_wide ha ?_
    exact ⟨s1.heap.objs.size,[s1.heap.objs.size],_,_,H1,rfl,I1.kept (t':=s1.toks) fun b o e=>Heap.get?_push_of_some _ e,Wbc hcl _ z t _ (.inr rfl),⟨_,Heap.get?_push_size _ rfl,rfl,rfl⟩,fp,q⟩
   | true =>
    refine wpAny_pyIter_ascii ha ?_
    exact ⟨s1.heap.objs.size,[s1.heap.objs.size],_,_,H1,rfl,I1.kept (t':=s1.toks) fun b o e=>Heap.get?_push_of_some _ e,Wbc hcl _ z t _ (.inl rfl),⟨_,Heap.get?_push_size _ rfl,rfl,rfl⟩,fp,q⟩
 unfold wSeq at hq
 split at hq
 ·rename_i ds
  obtain ⟨a,xs,rfl,h1,nl,rs⟩:=Xh rd
  have hz:ds.length≤sizeLine:=by obtain ⟨_,_,_,hz⟩:=I1.list (SqL.of h1); rw [rs.length]; exact hz
  exact pe R (.inl ⟨a,rfl,⟨xs,.of h1⟩,f ds _ _ H1 θ1 μ1 w1 g1 (Z7 hz _ fun H' θ' μ' w' gr _=>⟨xs,.of (gr.keep a _ h1 nl).1,gr.reps rs⟩) hq⟩)
 ·rename_i ds
  obtain ⟨a,xs,rfl,h1,nl,rs⟩:=We rd
  have hz:ds.length≤sizeLine:=by obtain ⟨_,_,_,hz⟩:=I1.tuple (SqT.of h1); rw [rs.length]; exact hz
  exact pe R (.inr (.inl ⟨a,rfl,⟨xs,.of h1⟩,f ds _ _ H1 θ1 μ1 w1 g1 (walk_tup hz _ fun H' θ' μ' w' gr _=>⟨xs,.of (gr.keep a _ h1 nl).1,gr.reps rs⟩) hq⟩))
 ·rename_i ds
  obtain ⟨a,xs,rfl,h1,rs⟩:=inv_ro rd
  have hz:ds.length≤sizeLine:=by obtain ⟨_,_,_,hz⟩:=I1.list (SqL_ro h1); rw [rs.length]; exact hz
  refine pe R (.inl ⟨a,rfl,⟨xs,SqL_ro h1⟩,f ds _ _ H1 θ1 μ1 w1 g1 (Z7 hz _ fun H' θ' μ' w' gr _=>⟨xs,?_,gr.reps rs⟩) hq⟩)
  rcases h1 with ⟨o,h1,h2⟩ | h1
  ·exact .inl (.inr ⟨o,(gr.keep a _ h1 h2).1⟩)
  ·exact .inr h1
 ·rename_i z
  obtain ⟨rfl,hz⟩:=Wd rd
  exact pe R (.inr (.inr ⟨_,rfl,f _ _ _ H1 θ1 μ1 w1 g1 (walk_str hz) hq⟩))
 ·rename_i ks ds
  obtain ⟨is,rfl,hq⟩:=hq
  obtain ⟨a,o,kvs,rfl,h1,nl,h2,h3⟩:=inv_fdc rd
  cases r1
  obtain ⟨q0,hz,hs,vs,rel,o',es,ep,q1,q2,q3,q4⟩:=(show ObjOk X.prog X.w H1 s1.heap a (.frz o (.dK kvs)) from I1.hok a _ h1)
  rw [q0] at q1; cases q1
  have hlen:=rel.length
  have hli:kvs.length=is.length:=by simpa using congrArg List.length h2
  refine wpAny_pyIter_dict hs (⟨o,es,q0,q2,q3,q4⟩:s1.heap.DictAt (Vd X.prog X.w) a vs ep) ?_
  refine ⟨s1.heap.objs.size,[s1.heap.objs.size],_,_,H1,rfl,I1.kept (t':=s1.toks) fun b o e=>Heap.get?_push_of_some _ e,turn_dict hcl a _ o kvs es ep q3,⟨_,Heap.get?_push_size _ rfl,rfl,by rw [hlen]; rfl⟩,fun b hb=>?_,f (is.map .int) (fun _=>True) (Itd a o kvs) H1 θ1 μ1 w1 g1 ⟨by simpa [← hli] using hz,fun i H' θ' μ' w' gr _=>⟨fun hi=>⟨⟨(gr.keep a _ h1 nl).1,by simpa [hli] using hi⟩,fun y H'' q=>?_⟩,fun hi=>⟨(gr.keep a _ h1 nl).1,by simp at hi; omega⟩⟩⟩ hq⟩
  ·obtain rfl:=List.mem_singleton.mp hb
   exact I1.fpOk (Nat.le_refl _) (I1.hok.fresh (Nat.le_refl _))
  ·obtain ⟨rfl,kv,e1,rfl⟩:=q
   have hi':i < is.length:=by simpa using hi
   refine ⟨w',Grow.refl,.int is[i],by simp [hi'],?_⟩
   have e2:(kvs.map (·.1))[i]? = some kv.1:=by rw [List.getElem?_map,e1]; rfl
   rw [h2] at e2
   simp [hi',keyOf] at e2
   rw [← e2]
   exact Yc
 ·rename_i n
  obtain ⟨a,rfl,ha⟩:=Zc rd
  split at hq
  ·rename_i ds hn
   obtain ⟨xs,h1,rs⟩:=w1.list hn ha
   have hz:ds.length≤sizeLine:=by obtain ⟨_,_,_,hz⟩:=I1.list (SqL.of h1); rw [rs.length]; exact hz
   refine pe R (.inl ⟨a,rfl,⟨xs,.of h1⟩,f ds _ _ H1 θ1 μ1 w1 g1 (Z7 hz _ fun H' θ' μ' w' gr hg=>?_) hq⟩)
   obtain ⟨ys,h2,rs2⟩:=w'.list hg (gr.pre n a ha)
   exact ⟨ys,.of h2,rs2⟩
  ·rename_i o ks ds hn
   obtain ⟨is,rfl,hq⟩:=hq
   cases r1
   obtain ⟨kvs,h1,h2,h3⟩:=w1.cell n _ a hn ha
   obtain ⟨q0,hz,hs,xs,rel,o',es,ep,q1,q2,q3,q4,q5⟩:=(show ObjOk X.prog X.w H1 s1.heap a (.frz o (.dT kvs)) from I1.hok a _ h1)
   rw [q0] at q1; cases q1
   have ev:es.toList.map (·.key)=(xs.map fun q=>q.2.1).map Value.ref:=by rw [q4,List.map_map,List.map_map]; rfl
   have lx:xs.length=is.length:=by
    have e1:=Paired.length rel
    have e2:=congrArg List.length h2
    simp at e2
    omega
   have hes:es.size=xs.length:=by have:=congrArg List.length ev; simpa using this
   refine dit_new hs q0 q2 q3 ?_
   refine ⟨s1.heap.objs.size,[s1.heap.objs.size],_,_,H1,rfl,I1.kept (t':=s1.toks) fun b o e=>Heap.get?_push_of_some _ e,turn_refs hcl a _ o (xs.map fun q=>q.2.1) es ep q3 ev,⟨_,Heap.get?_push_size _ rfl,rfl,rfl⟩,fun b hb=>?_,f (is.map tI) _ (Itx a o (xs.map fun q=>q.2.1)) H1 θ1 μ1 w1 g1 ⟨?_,fun i H' θ' μ' w' gr hg=>?_⟩ hq⟩
   ·obtain rfl:=List.mem_singleton.mp hb
    exact I1.fpOk (Nat.le_refl _) (I1.hok.fresh (Nat.le_refl _))
   ·have e1:=Paired.length rel
    simp; omega
   ·obtain ⟨kvs',h1',h2',h3'⟩:=w'.cell n _ a hg (gr.pre n a ha)
    have keep:∀ (j:Nat) (q:List Key×Addr×Value) (l:List Int),xs[j]? = some q→is[j]? = some l→H' q.2.1=some (.tup (l.map V.int)):=fun j q l e1 e2=>by
     have h5:=(Va6 w1 rel h2).2 j q l e1 e2
     exact (gr.keep _ _ h5 (tup_nl w1 h5)).1
    have hH:∃ u,H' a=some (.frz o u):=⟨_,h1'⟩
    refine ⟨fun hi=>?_,fun hi=>⟨hH,by simp at hi; simp; omega⟩⟩
    have hi':i < is.length:=by simpa using hi
    have hix:i < xs.length:=by omega
    refine ⟨⟨hH,by simpa using hix⟩,fun y H'' q=>?_⟩
    obtain ⟨rfl,b,e1,rfl⟩:=q
    have hb:b=xs[i].2.1:=by simp [hix] at e1; exact e1.symm
    subst hb
    have h5:=keep i xs[i] is[i] (List.getElem?_eq_getElem hix) (List.getElem?_eq_getElem hi')
    refine ⟨w',Grow.refl,tI is[i],by simp [hi'],?_⟩
    unfold tI Rep
    exact ⟨_,_,rfl,h5,tup_nl w' h5,Zay _⟩
  ·exact hq.elim
 ·exact hq.elim
theorem pi_rng1D {a:Expr} {ws:WA} {y:Str} {p pos:Pos} (ey:y=Str.ofString "range") (hg:Gl X y) (hm:X.mg y=none) (ha:PA X [a] (LA X.K ws)) (hs:starEach [a] X.env=[(false,eval a X.env)]) :
  PI X tg (.Call (.Name y p) [a] [] pos) (LI X.K fun ρ μ Q=>ws ρ μ fun ds μ1=>wRng 1 ds μ1 Q):=by
 subst ey
 intro pins s σ H R I h
 refine pi_range1 (tg:=tg) hg hm ha hs pins s σ H R I ?_
 obtain ⟨ρ,θ,μ,Qi,sm,h,f⟩:=h
 refine ⟨ρ,θ,μ,_,sm,h,fun ds vs H1 θ1 μ1 w1 g1 r1 h1=>?_⟩
 have hl:lim=16777216:=rfl
 unfold wRng at h1
 split at h1
 ·rename_i j _
  obtain ⟨v,r,rfl,r2,r3⟩:=r1.cons_inv
  cases r3.nil_inv
  cases Zb r2
  obtain ⟨k1,k2,k3⟩:=h1
  refine ⟨j,rfl,k2,by rw [hl] at k1; omega,f _ _ _ H1 θ1 μ1 w1 g1 (Zae ?_) k3⟩
  rw [hl] at k1; rw [sizeLine_eq]; omega
 ·rename_i h2; cases h2
 ·exact h1.elim
theorem pi_rng2D {a b:Expr} {ws:WA} {y:Str} {p pos:Pos} (ey:y=Str.ofString "range") (hg:Gl X y) (hm:X.mg y=none) (ha:PA X [a,b] (LA X.K ws)) (hs:starEach [a,b] X.env=[(false,eval a X.env),(false,eval b X.env)]) (hs2:starEach [b] X.env=[(false,eval b X.env)]) :
  PI X tg (.Call (.Name y p) [a,b] [] pos) (LI X.K fun ρ μ Q=>ws ρ μ fun ds μ1=>wRng 2 ds μ1 Q):=by
 subst ey
 intro pins s σ H R I h
 refine pi_range2 (tg:=tg) hg hm ha hs hs2 pins s σ H R I ?_
 obtain ⟨ρ,θ,μ,Qi,sm,h,f⟩:=h
 refine ⟨ρ,θ,μ,_,sm,h,fun ds vs H1 θ1 μ1 w1 g1 r1 h1=>?_⟩
 have hl:lim=16777216:=rfl
 unfold wRng at h1
 split at h1
 ·rename_i h2; cases h2
 ·rename_i i j _
  obtain ⟨v,r,rfl,r2,r3⟩:=r1.cons_inv
  obtain ⟨w,r,rfl,r4,r5⟩:=r3.cons_inv
  cases r5.nil_inv
  cases Zb r2
  cases Zb r4
  obtain ⟨⟨k0,k1⟩,k3⟩:=h1
  refine ⟨i,j,rfl,k1,f _ _ _ H1 θ1 μ1 w1 g1 (Zae ?_) k3⟩
  rw [hl] at k0; rw [sizeLine_eq]; omega
 ·exact h1.elim
noncomputable def LG (K:PySem.W.Frag) (bnd:D→Rho→(Rho→Prop)→Prop):TG:=fun v σ H Q=>∃ d ρ θ μ k,Sim K σ H ρ θ μ∧Rp K H θ μ d v∧bnd d ρ k∧∀ σ' ρ',Sim K σ' H ρ' θ μ→k ρ'→Q σ' H
theorem PG.wk {t t':TG} (h:PG X tg t) (m:∀ v σ H Q,t' v σ H Q→t v σ H Q):PG X tg t':=fun pins s σ H v u Q I r hw=>h pins s σ H v u Q I r (m v σ H Q hw)
theorem pg_nameD {i:Nat} {x:Str} {pos:Pos} (hN:X.N.Nodup) (hi:X.N[i]? = some x) (hx:Loc X.env.scope x) (hf:X.fn x=true∨X.env.scope.names.lookup x=some .local):PG X (.Name x pos) (LG X.K (Yg [i] false)) :=
 PG.wk (pg_name hN hi hx hf) fun v σ H Q h=>by
  obtain ⟨d,ρ,θ,μ,k,sm,rd,hb,f⟩:=h
  exact f _ _ (sm.set rd i) hb
noncomputable def gNames:List Nat→TGs
 | []=>gNil
 | i :: is=>gCons (gName i) (gNames is)
theorem Xay {K:PySem.W.Frag} {H:Hp} {θ:List Addr} {μ:Mem} {Q:L2.St→Hp→Prop}:∀ (is:List Nat) (ds:List D) (vs:List V) (σ:L2.St) (ρ:Rho),Sim K σ H ρ θ μ→Rps K H θ μ ds vs→ds.length=is.length →
  (∀ σ',Sim K σ' H ((is.zip ds).foldl (fun r p=>r.set p.1 (some p.2)) ρ) θ μ→Q σ' H)→gNames is vs σ H Q
 | [],ds,vs,σ,ρ,sm,rs,hl,f=>by
  have:ds=[]:=by simpa using hl
  subst this
  cases rs.nil_inv
  exact ⟨rfl,f σ (by simpa using sm)⟩
 | i :: is,ds,vs,σ,ρ,sm,rs,hl,f=>by
  cases ds with
  | nil=>simp at hl
  | cons d ds =>
   obtain ⟨v,r,rfl,r1,r2⟩:=rs.cons_inv
   exact ⟨v,r,rfl,Xay is ds r (σ.set i (some v)) (ρ.set i (some d)) (sm.set r1 i) r2 (by simpa using hl) (by simpa using f)⟩
theorem pg_tupD {is:List Nat} {es:List Expr} {k:Nat} {pos:Pos} (hc:X.calm=true) (h:PGs X es (gNames is)) (hn:(assignEach es X.env).length=is.length) (hst:(assignEach es X.env).findIdx? (·.1)=none):PG X (.Tuple es k pos) (LG X.K (Yg is true)) :=
 PG.wk (pg_tup hc h hn hst) fun v σ H Q q=>by
  obtain ⟨d,ρ,θ,μ,k,sm,rd,hb,f⟩:=q
  unfold Yg at hb
  split at hb
  ·rename_i h2; cases h2
  ·split at hb
   ·rename_i ds
    obtain ⟨a,xs,rfl,h1,_,rs⟩:=We rd
    exact ⟨a,xs,rfl,.of h1,by rw [← rs.length]; exact hb.1,Xay is ds xs σ ρ sm rs hb.1 fun σ' s'=>f σ' _ s' hb.2⟩
   ·exact hb.elim
theorem ps_forD {EX:L2.St→XK} {iter:Expr} {body:List Stmt} {wi:WI} {bnd:D→Rho→(Rho→Prop)→Prop} {wb:WS} {pos:Pos} (hp:PassesOwn (model X.prog X.w) X.A X.env X.xe) (hc:X.calm=true) (hi:PI X tg iter (LI X.K wi)) (hg:PG X tg (LG X.K bnd)) (hb:PSs X body (LS X.K EX wb))
  (hs:∀ x,foldedSetIterable iter X.env x=pure x):PS X (.For tg iter body [] pos) (LS X.K EX fun Z ρ μ=>wi ρ μ fun ds g μ1=>Yar bnd wb g Z ds ρ μ1):=by
 refine PS.wk (ps_for hp hc hi hg hb hs) fun E σ H h=>?_
 obtain ⟨ρ,θ,μ,Z,sm,h,f⟩:=h
 refine ⟨ρ,θ,μ,_,sm,h,fun ds g J H1 θ1 μ1 w1 g1 wk h1=>?_⟩
 have f1:=f.mono g1
 refine ⟨fun i m σ' H'=>m=ds.length - i∧i≤ds.length∧∃ ρ' θ' μ',Sim X.K σ' H' ρ' θ' μ'∧Grow H1 θ1 μ1 H' θ' μ'∧Yar bnd wb g Z (ds.drop i) ρ' μ',⟨ds.length,by simp,Nat.zero_le _,ρ,θ1,μ1,sm.grow w1 g1,Grow.refl,by simpa using h1⟩,?_⟩
 rintro i m σ' H' ⟨rfl,hi',ρ',θ',μ',sm',gr,hl⟩
 by_cases hlt:i < ds.length
 ·right
  have e:ds.drop i=ds[i] :: ds.drop (i + 1):=List.drop_eq_getElem_cons hlt
  rw [e] at hl
  obtain ⟨hgμ,hl⟩:=hl
  obtain ⟨go,y⟩:=(wk.2 i H' θ' μ' sm'.wok gr hgμ).1 hlt
  refine ⟨go,fun σ2 H2=>∃ ρ2 θ2 μ2,Sim X.K σ2 H2 ρ2 θ2 μ2∧Grow H1 θ1 μ1 H2 θ2 μ2∧Yar bnd wb g Z (ds.drop (i + 1)) ρ2 μ2,fun σ2 H2 ⟨ρ2,θ2,μ2,s2,g2,l2⟩=>⟨ds.length - (i + 1),by omega,rfl,hlt,ρ2,θ2,μ2,s2,g2,l2⟩,fun x H'' yx=>?_⟩
  obtain ⟨w2,g2,d,ed,rd⟩:=y x H'' yx
  rw [List.getElem?_eq_getElem hlt] at ed
  cases ed
  refine ⟨ds[i],ρ',θ',μ',_,sm'.grow w2 g2,rd,hl,fun σ3 ρ3 s3 q3=>⟨ρ3,θ',μ',_,s3,q3,?_⟩⟩
  have g3:=gr.trans g2
  have f3:=f1.mono g3
  exact ⟨fun σ4 H4 ρ4 θ4 μ4 s4 g4 z4=>⟨ρ4,θ4,μ4,s4,g3.trans g4,z4⟩,f3.rt,fun σ4 H4 ρ4 θ4 μ4 s4 g4 z4=>f3.nx σ4 H4 ρ4 θ4 μ4 s4 g4 z4,fun σ4 H4 ρ4 θ4 μ4 s4 g4 z4=>⟨ρ4,θ4,μ4,s4,g3.trans g4,z4⟩,f3.xc⟩
 ·left
  have e:i=ds.length:=by omega
  subst e
  rw [List.drop_length] at hl
  obtain ⟨hgμ,hl⟩:=hl
  exact ⟨(wk.2 _ H' θ' μ' sm'.wok gr hgμ).2 rfl,f1.nx σ' H' ρ' θ' μ' sm' gr hl⟩
theorem ps_whlD {EX:L2.St→XK} {c:Expr} {body:List Stmt} {wt:WT} {wb:WS} {pos:Pos} (hp:PassesOwn (model X.prog X.w) X.A X.env X.xe) (hc:PT X c (LT X.K wt)) (hb:PSs X body (LS X.K EX wb)) :
  PS X (.While c body [] pos) (LS X.K EX fun Z ρ μ=>∃ W:Nat→Rho→Mem→Prop,(∃ m,W m ρ μ)∧∀ m ρ μ,W m ρ μ→wt ρ μ fun t μ1 =>
   if t=true then wb { Z with nx:=fun ρ' μ'=>∃ m',m' < m∧W m' ρ' μ',ct:=fun ρ' μ'=>∃ m',m' < m∧W m' ρ' μ',bk:=Z.nx } ρ μ1 else Z.nx ρ μ1):=by
 refine PS.wk (ps_while hp hc hb) fun E σ H h=>?_
 obtain ⟨ρ,θ,μ,Z,sm,⟨W,⟨m0,w0⟩,turn⟩,f⟩:=h
 refine ⟨fun m σ' H'=>∃ ρ' θ' μ',Sim X.K σ' H' ρ' θ' μ'∧Grow H θ μ H' θ' μ'∧W m ρ' μ',⟨m0,ρ,θ,μ,sm,Grow.refl,w0⟩,?_⟩
 rintro m σ1 H1 ⟨ρ1,θ1,μ1,s1,g1,w1⟩
 refine ⟨ρ1,θ1,μ1,_,s1,turn m ρ1 μ1 w1,fun b H2 θ2 μ2 wk2 g2 q=>?_⟩
 have f2:=f.mono (g1.trans g2)
 cases b with
 | true =>
  rw [if_pos rfl] at q
  dsimp only
  rw [if_pos rfl]
  refine ⟨fun σ3 H3=>∃ ρ3 θ3 μ3 m',m' < m∧Sim X.K σ3 H3 ρ3 θ3 μ3∧Grow H θ μ H3 θ3 μ3∧W m' ρ3 μ3,fun σ3 H3 ⟨ρ3,θ3,μ3,m',hm,s3,g3,w3⟩=>⟨m',hm,ρ3,θ3,μ3,s3,g3,w3⟩,ρ1,θ2,μ2,_,s1.grow wk2 g2,q,?_⟩
  exact ⟨fun σ4 H4 ρ4 θ4 μ4 s4 g4 ⟨m',hm,w4⟩=>⟨ρ4,θ4,μ4,m',hm,s4,(g1.trans g2).trans g4,w4⟩,f2.rt,f2.nx,fun σ4 H4 ρ4 θ4 μ4 s4 g4 ⟨m',hm,w4⟩=>⟨ρ4,θ4,μ4,m',hm,s4,(g1.trans g2).trans g4,w4⟩,f2.xc⟩
 | false =>
  rw [if_neg Bool.false_ne_true] at q
  dsimp only
  rw [if_neg Bool.false_ne_true]
  exact f2.nx σ1 H2 ρ1 θ2 μ2 (s1.grow wk2 g2) Grow.refl q
theorem sim_cap {K:PySem.W.Frag} {H:Hp} {θ:List Addr} {μ:Mem} {σ:L2.St} {ρ:Rho} {cap:List Nat} (n:Nat) (sm:Sim K σ H ρ θ μ):Sim K (List.replicate n none ++ capS cap σ) H (List.replicate n none ++ cap.map fun i=>(ρ[i]?).join) θ μ:=by
 refine ⟨sm.wok,by simp [capS],fun i e h=>?_⟩
 by_cases hi:i < n
 ·rw [List.getElem?_append_left (by simpa using hi),List.getElem?_replicate] at h
  split at h <;> cases h
 ·obtain ⟨j,rfl⟩:∃ j,i=n + j:=⟨i - n,by omega⟩
  rw [List.getElem?_append_right (by simp)] at h ⊢
  simp only [List.length_replicate,Nat.add_sub_cancel_left,List.getElem?_map] at h ⊢
  cases q:cap[j]? with
  | none=>rw [q] at h; cases h
  | some k =>
   rw [q] at h
   simp only [Option.map_some,Option.some.injEq] at h
   have hj:ρ[k]? = some (some e):=by
    cases z:ρ[k]? with
    | none=>rw [z] at h; cases h
    | some w=>rw [z] at h; simp only [Option.join_some] at h; rw [h]
   obtain ⟨w,e1,e2⟩:=sm.val k e hj
   refine ⟨w,?_,e2⟩
   simp only [capS,List.getElem?_map,q,Option.map_some,e1,Option.join_some]
theorem Xag (caps:Rho):∀ (ds:List D) (pre ρs:Rho),ρs.length=ds.length→((List.range' pre.length ds.length).zip ds).foldl (fun r p=>r.set p.1 (some p.2)) (pre ++ ρs ++ caps)=pre ++ ds.map some ++ caps
 | [],pre,ρs,h=>by
  have:ρs=[]:=by simpa using h
  subst this; simp
 | d :: ds,pre,ρs,h=>by
  cases ρs with
  | nil=>simp at h
  | cons r ρs =>
   have ih:=Xag caps ds (pre ++ [some d]) ρs (by simpa using h)
   simp only [List.length_append,List.length_cons,List.length_nil,Nat.zero_add] at ih
   simp only [List.length_cons,List.range'_succ,List.zip_cons_cons,List.foldl_cons]
   have e:(pre ++ r :: ρs ++ caps).set pre.length (some d)=pre ++ [some d] ++ ρs ++ caps:=by simp
   rw [e,ih]
   simp
theorem bind_CT {n:Nat} {tt:Bool} {d:D} {ρs caps:Rho} {k:Rho→Prop} (hn:tt=false→n=1) (hl:ρs.length=n) (h:bindC n tt d caps k):Yg (List.range n) tt d (ρs ++ caps) fun ρ'=>(∃ ρt:Rho,ρt.length=n∧ρ'=ρt ++ caps)∧k ρ':=by
 cases tt with
 | false =>
  cases hn rfl
  match ρs,hl with
  | [r],_=>exact ⟨⟨[some d],rfl,rfl⟩,h⟩
 | true =>
  cases d with
  | tup ds =>
   obtain ⟨h1,h2⟩:=(show ds.length=n∧k (ds.map some ++ caps) from h)
   show ds.length=(List.range n).length∧_
   have e:=Xag caps ds [] ρs (by rw [hl,h1])
   simp only [List.length_nil,List.nil_append] at e
   rw [List.range_eq_range',← h1,e]
   refine ⟨by simp,⟨⟨ds.map some,by simp,rfl⟩,h2⟩⟩
  | _=>exact False.elim h
theorem le_comp {m:Bool} {n:Nat} {tt:Bool} {cap:List Nat} {wi:WI} {cw:WT} {ew:WE} {σ:L2.St} {H:Hp} {Q:VK} (hn:tt=false→n=1)
  (h:LE X.K (fun ρ μ Q=>wi ρ μ fun ds g μ1=>Vs (fun d k=>bindC n tt d (cap.map fun i=>(ρ[i]?).join) k) cw ew g ds [] μ1 fun vs μ2=>newL m vs μ2 Q) σ H Q):tComp n (LG X.K fun d r k=>Yg (List.range n) tt d r k) cap (LI X.K wi) (LT X.K cw) (LE X.K ew) σ H Q:=by
 obtain ⟨ρ,θ,μ,Qd,sm,h,f⟩:=h
 refine ⟨ρ,θ,μ,_,sm,h,fun ds g J H1 θ1 μ1 w1 g1 wk h1=>?_⟩
 have f1:=f.mono g1
 have sm1:=sm.grow w1 g1
 refine ⟨fun i k vs σc H'=>k=ds.length - i∧i≤ds.length∧vs.length≤i∧∃ acc θ' μ' ρs,ρs.length=n∧Sim X.K σc H' (ρs ++ cap.map fun i=>(ρ[i]?).join) θ' μ'∧Grow H1 θ1 μ1 H' θ' μ'∧Rps X.K H' θ' μ' acc vs∧Vs (fun d k=>bindC n tt d (cap.map fun i=>(ρ[i]?).join) k) cw ew g (ds.drop i) acc μ' fun vs μ2=>newL m vs μ2 Qd,
  ⟨ds.length,by simp,Nat.zero_le _,Nat.le_refl _,[],θ1,μ1,List.replicate n none,by simp,sim_cap n sm1,Grow.refl,Reps.nil,by simpa using h1⟩,?_⟩
 rintro i k vs σc H' ⟨rfl,hi,hv,acc,θ',μ',ρs,hρ,sc,gr,rs,hl⟩
 have w':=sc.wok
 have hz:=wk.1
 by_cases hlt:i < ds.length
 ·right
  have e:ds.drop i=ds[i] :: ds.drop (i + 1):=List.drop_eq_getElem_cons hlt
  rw [e] at hl
  obtain ⟨hgμ,hl⟩:=hl
  obtain ⟨go,y⟩:=(wk.2 i H' θ' μ' w' gr hgμ).1 hlt
  refine ⟨go,by omega,fun x H'' yx=>?_⟩
  obtain ⟨w2,g2,d,ed,rd⟩:=y x H'' yx
  rw [List.getElem?_eq_getElem hlt] at ed
  cases ed
  refine ⟨ds[i],_,θ',μ',_,sc.grow w2 g2,rd,bind_CT hn hρ hl,fun σ2 ρ2 s2 q2=>?_⟩
  obtain ⟨⟨ρt,ht,rfl⟩,q2⟩:=q2
  refine ⟨_,θ',μ',_,s2,q2,fun b H3 θ3 μ3 w3 g3 q3=>?_⟩
  have g23:=g2.trans g3
  cases b with
  | true =>
   rw [if_pos rfl] at q3
   dsimp only
   rw [if_pos rfl]
   refine ⟨_,θ3,μ3,_,s2.grow w3 g3,q3,fun d4 v4 H4 θ4 μ4 w4 g4 r4 q4=>?_⟩
   have g24:=g23.trans g4
   exact ⟨ds.length - (i + 1),by omega,rfl,hlt,by simp; omega,acc ++ [d4],θ4,μ4,ρt,ht,s2.grow w4 (g3.trans g4),gr.trans g24,(g24.reps rs).append (Reps.one r4),q4⟩
  | false =>
   rw [if_neg Bool.false_ne_true] at q3
   dsimp only
   rw [if_neg Bool.false_ne_true]
   exact ⟨ds.length - (i + 1),by omega,rfl,hlt,by omega,acc,θ3,μ3,ρt,ht,s2.grow w3 g3,gr.trans g23,g23.reps rs,q3⟩
 ·left
  have e:i=ds.length:=by omega
  subst e
  rw [List.drop_length] at hl
  obtain ⟨hgμ,hl⟩:=hl
  exact ⟨by omega,(wk.2 _ H' θ' μ' w' gr hgμ).2 rfl,fun p hp=>Yp w' (f1.mono gr) rs hl hp⟩
end
end DW
end
section
set_option autoImplicit false
set_option maxHeartbeats 2000000
namespace DW
open PySem PySem.Spec PyProof.Rows L2
section
variable {X:Cx}
end
end DW
end
section
set_option autoImplicit false
set_option maxHeartbeats 2000000
namespace DW
open PySem PySem.Spec PyProof.Rows L2
section
variable {prog:Program} {w:World} {A:Around} {E:Value→Shared→Prop} {s:Shared}
end
section
variable {X:Cx}
end
end DW
end
section
set_option autoImplicit false
namespace DW
open PySem PySem.Spec PyProof.Rows L2
section
variable {prog:Program} {w:World} {A:Around} {E:Value→Shared→Prop} {s:Shared}
end
section
variable {prog:Program} {w:World} {A:Around} {E:Value→Shared→Prop} {s:Shared}
end
end DW
end
section
set_option autoImplicit false
set_option maxHeartbeats 2000000
namespace DW
open PySem PySem.Spec PyProof.Rows L2
section
variable {K:PySem.W.Frag} {H:Hp} {θ:List Addr} {μ:Mem} {ds es:List D} {a b:Addr}
end
section
variable {X:Cx}
end
end DW
end
section
set_option autoImplicit false
set_option maxHeartbeats 2000000
namespace DW
open PySem PySem.Spec PyProof.Rows L2
section
variable {K:PySem.W.Frag} {H:Hp} {θ:List Addr} {μ:Mem} {ds:List D} {a:Addr}
end
section
variable {X:Cx}
end
end DW
end
section
set_option autoImplicit false
set_option maxHeartbeats 2000000
namespace DW
open PySem PySem.Spec PyProof.Rows L2
theorem boot_rvd:bootBuiltins (Str.ofString "reversed")=some (.type "reversed"):=by decide +kernel
section
variable {K:PySem.W.Frag} {H:Hp} {θ:List Addr} {μ:Mem} {ds:List D} {a:Addr}
end
section
variable {X:Cx} {tg:Expr}
end
end DW
end
section
set_option autoImplicit false
set_option maxHeartbeats 2000000
namespace DW
open PySem PySem.Spec PyProof.Rows L2
theorem nolen_lri:typeLookup (.type "list_reverseiterator") "__len__" = pure none:=by rw [typeLookup_type,builtinLookup_eq_fast]; kernel_rfl
theorem hint_lri:typeLookup (.type "list_reverseiterator") "__length_hint__" = pure (some (.builtin "list_reverseiterator.__length_hint__")):=by rw [typeLookup_type,builtinLookup_eq_fast]; kernel_rfl
section
variable {prog:Program} {w:World} {A:Around} {E:Value→Shared→Prop} {s:Shared}
theorem extend_rev {R:Result→Shared→Prop} {it l:Addr} {items:Array Value} (hh:A.handled=none) (hne:l≠it) (hit:s.heap.IsRevIter it l ((items.size:Int) - 1)) (hl:s.heap.IsList l items) (hz:items.size≤sizeLine) (S:Addr) (res:Value) (c₀:Nat)
  (hS:s.heap.get? S=some { cls:=.type "list",data:=.seq #[] c₀ }) (hSI:S≠it) (hSl:S≠l)
  (hR:∀ h' tk acc' c',(∀ b o,b≠S→b≠it→s.heap.get? b=some o→h'.get? b=some o)→h'.get? S=some { cls:=.type "list",dict:=none,data:=.seq acc' c',slots:=#[] } →
   ItemsOf (fun i v=>items[items.size - 1 - i]? = some v) acc' items.size→R (.ok (.ret res)) { s with heap:=h',toks:=tk }) :
  wpAny (model prog w) A.in1 (Builtin.List.listExtendWith (.ref S) (.ref it) res)
   (fun fin s'=>match fin with | .done f=>R (.ok f) s' | .again c'=>c'.quiet=true∧codeAny (model prog w) A c' R s') (fun e s'=>R (.error e) s') s:=by
 have hSf:S ∉ [it,l]:=by simp [hSI,hSl]
 have W:=(Walks.listRev (prog:=prog) (w:=w) (A:=A.in1) hh it l hne items).toS
 have st0:0≤items.size∧s.heap.IsRevIter it l ((items.size:Int) - 1 - ((0:Nat):Int))∧s.heap.IsList l items:=⟨Nat.zero_le _,by simpa using hit,hl⟩
 have hT:=hit.typeIs
 unfold Builtin.List.listExtendWith
 refine wpAny_bind (wpAny_typeOf hT ?_)
 have h1:Builtin.List.listSameRef (.ref S) (.ref it)=false:=by simp [Builtin.List.listSameRef,hSI]
 have h2:(Value.type "list_reverseiterator" == Value.type "list")=false:=by decide
 have h3:(Value.type "list_reverseiterator" == Value.type "tuple")=false:=by decide
 simp only [h1,h2,h3,Bool.or_false,Bool.false_eq_true,if_false]
 refine wpAny_bind (wpAny_pyIter_revIter hit ?_)
 refine wpAny_bind (wpAny_holding ?_)
 unfold Builtin.List.listLengthHint
 refine wpAny_bind (wpAny_specialOf hT nolen_lri ?_)
 show wpAny _ A.in1 (specialOf (Value.ref it) (Str.ofString "__length_hint__") >>= _) _ _ _
 refine wpAny_bind (wpAny_specialOf hT hint_lri ?_)
 generalize hid:("list_reverseiterator.__length_hint__" : String)=id0
 wp_delta
 rw [show splitId id0=some ("list_reverseiterator","__length_hint__") from by subst hid; decide +kernel]
 subst hid
 refine wpAny_bind (wpAny_isInstance (b:=true) hT (by rw [isSubtype_type]; kernel_rfl) ?_)
 refine wpAny_pure ?_
 rw [if_neg (by decide)]
 refine wpAny_pure ⟨plainId_quiet F.plain_extend_loop _,codeAny_extend_loopS W hz S hSf res items.size 0 _ #[] c₀ rfl (Nat.zero_le _) st0 hS (ItemsOf.nil _) fun s' acc' c' hm hS' hacc=>?_⟩
 rw [Moved.eq_with hm]
 refine hR s'.heap s'.toks acc' c' (fun b o hb hb2 e=>hm.heap b o (fun hmem=>?_) e) hS' hacc
 rcases List.mem_cons.mp hmem with e' | hmem
 ·exact hb e'
 ·exact hb2 (List.mem_singleton.mp hmem)
end
end DW
namespace DW
open PySem PySem.Spec PyProof.Rows L2
section
variable {prog:Program} {w:World} {A:Around} {E:Value→Shared→Prop} {s:Shared}
theorem init_rev {R:Result→Shared→Prop} {it l:Addr} {items:Array Value} (hh:A.handled=none) (hne:l≠it) (hit:s.heap.IsRevIter it l ((items.size:Int) - 1)) (hl:s.heap.IsList l items) (hz:items.size≤sizeLine) (S:Addr)
  (hS:s.heap.get? S=some { cls:=.type "list",data:=.seq #[] }) (hSI:S≠it) (hSl:S≠l)
  (hR:∀ h' tk acc' c',(∀ b o,b≠S→b≠it→s.heap.get? b=some o→h'.get? b=some o)→h'.get? S=some { cls:=.type "list",dict:=none,data:=.seq acc' c',slots:=#[] } →
   ItemsOf (fun i v=>items[items.size - 1 - i]? = some v) acc' items.size→R (.ok (.ret .none)) { s with heap:=h',toks:=tk }) :
  wpAny (model prog w) A.in1 (Builtin.«list.__init__» ⟨[.ref S,.ref it],[]⟩)
   (fun fin s'=>match fin with | .done f=>R (.ok f) s' | .again c'=>c'.quiet=true∧codeAny (model prog w) A c' R s') (fun e s'=>R (.error e) s') s:=by
 show wpAny _ _ (do let old ← Builtin.List.listItems (.ref S); Builtin.List.listUpdate (.ref S) (fun _=>#[]); letGo old.toList.reverse; Builtin.List.listExtendWith (.ref S) (.ref it) .none) _ _ s
 refine wpAny_bind ?_
 unfold Builtin.List.listItems
 refine wpAny_bind (wpAny_seqItems hS rfl (wpAny_pure ?_))
 show wpAny _ _ (updateSeq S (fun _=>#[]) >>= fun _=>letGo (#[]:Array Value).toList.reverse >>= fun _=>Builtin.List.listExtendWith (.ref S) (.ref it) .none) _ _ s
 refine wpAny_bind (wpAny_updateSeq hS rfl ?_)
 have hS₂:=Heap.get?_update_self (Obj.mapSeq (fun _=>(#[]:Array Value))) hS rfl
 have oth:∀ b o,b≠S→s.heap.get? b=some o→(s.heap.update S (Obj.mapSeq (fun _=>(#[]:Array Value)))).get? b=some o :=
  fun b o hb e=>(Heap.get?_update_other _ _ (Ne.symm hb)).trans e
 refine wpAny_bind (wpAny_letGo ?_)
 refine extend_rev hh hne (hit.at fun o e=>oth it o (Ne.symm hSI) e) (hl.at fun o e=>oth l o (Ne.symm hSl) e) hz S .none _ hS₂ hSI hSl fun h' tk acc' c' hk hS' hacc=>?_
 exact hR h' tk acc' c' (fun b o hb hb2 e=>hk b o hb hb2 (oth b o hb e)) hS' hacc
theorem Vao {Q:Value→Shared→Prop} {it l:Addr} {items:Array Value} (hh:A.handled=none) (hne:l≠it) (hit:s.heap.IsRevIter it l ((items.size:Int) - 1)) (hl:s.heap.IsList l items) (hz:items.size≤sizeLine)
  (hQ:∀ h' tk acc' c',(∀ b o,b≠it→s.heap.get? b=some o→h'.get? b=some o) →
   h'.get? s.heap.objs.size=some { cls:=.type "list",dict:=none,data:=.seq acc' c',slots:=#[] }→ItemsOf (fun i v=>items[items.size - 1 - i]? = some v) acc' items.size→Q (.ref s.heap.objs.size) { s with heap:=h',toks:=tk }) :
  wpAny (model prog w) A (call (.type "list") [.ref it]) Q E s:=by
 have lt1:it < s.heap.objs.size:=by obtain ⟨o,ho,_⟩:=hit; exact Heap.lt_size ho
 have lt2:l < s.heap.objs.size:=by obtain ⟨o,ho,_⟩:=hl; exact Heap.lt_size ho
 refine callType_codes (Q₁:=fun obj s₁=>obj = .ref s.heap.objs.size∧s₁={ s with heap:=s.heap.push { cls:=.type "list",data:=.seq #[] } }) F.called_list (F.typeCall_list_1 _) F.entry_list_init
  (code_list_new _ ⟨rfl,rfl⟩) fun obj s₁ h₁=>?_
 obtain ⟨rfl,rfl⟩:=h₁
 have hS:(s.heap.push { cls:=.type "list",data:=.seq #[] }).get? s.heap.objs.size=some { cls:=.type "list",data:=.seq #[] }:=Heap.get?_push_size _ rfl
 refine ⟨⟨_,hS,rfl⟩,F.args_list_init_2 _ _,init_rev (A:=A.in1) hh hne (hit.at fun o e=>Heap.get?_push_of_some _ e) (hl.at fun o e=>Heap.get?_push_of_some _ e) hz _ hS (Ne.symm (Nat.ne_of_lt lt1)) (Ne.symm (Nat.ne_of_lt lt2)) fun h' tk acc' c' hk hS' hacc=>?_⟩
 exact ⟨rfl,hQ h' tk acc' c' (fun b o hb e=>hk b o (Nat.ne_of_lt (Heap.lt_size e)) hb (Heap.get?_push_of_some _ e)) hS' hacc⟩
end
end DW
namespace DW
open PySem PySem.Spec PyProof.Rows L2
section
variable {X:Cx}
theorem Ybb {ys:List V} {its:List Value} (h:Vals ys its) {acc:Array Value} (ha:ItemsOf (fun i v=>its.toArray[its.toArray.size - 1 - i]? = some v) acc its.toArray.size):Vals ys.reverse acc.toList:=by
 have e:acc.toList=its.reverse:=by
  apply List.ext_getElem?
  intro i
  have hz:acc.size=its.length:=by simpa using ha.1
  by_cases hi:i < its.length
  ·have h1:=ha.2 i (acc[i]'(by omega)) (by simp)
   rw [List.getElem?_reverse (by simpa using hi)]
   have h2:acc.toList[i]? = some (acc[i]'(by omega)):=by simp
   rw [h2]
   simpa using h1.symm
  ·rw [List.getElem?_eq_none (by simp; omega),List.getElem?_eq_none (by simp; omega)]
 rw [e]
 exact h.reverse
theorem pe_lrev {m:Bool} {l:Expr} {wl:WE} {y y2:Str} {p p2 pos pos2:Pos} (hc:X.calm=true) (ey:y=Str.ofString "list") (ey2:y2=Str.ofString "reversed") (hg:Gl X y) (hm:X.mg y=none) (hg2:Gl X y2) (hm2:X.mg y2=none) (he:PE X l (LE X.K wl))
  (hs:starEach [l] X.env=[(false,eval l X.env)]) (hs2:starEach [.Call (.Name y2 p2) [l] [] pos2] X.env=[(false,eval (.Call (.Name y2 p2) [l] [] pos2) X.env)]) :
  PE X (.Call (.Name y p) [.Call (.Name y2 p2) [l] [] pos2] [] pos) (LE X.K fun ρ μ Q=>wl ρ μ fun d μ1=>wRvl (some m) d μ1 Q):=by
 subst ey ey2
 intro pins s σ H Q I h
 obtain ⟨ρ,θ,μ,Qd,sm,h,f⟩:=h
 refine Call_ (Wr I hg hm (show bootBuiltins (Str.ofString "list")=some (.type "list") by decide +kernel) (PyProof.Rows.callWith_type1 ?_ hs2 rfl) (by decide +kernel) (by decide +kernel))
 rw [hs2]
 refine Calls.spliced_cons ?_
 refine Call_ (Wr I hg2 hm2 boot_rvd (PyProof.Rows.callWith_type1 ?_ hs rfl))
 rw [hs]
 refine Calls.spliced_cons (thn (he pins s σ H (fun v H1=>∃ d θ1 μ1,Rp X.K H1 θ1 μ1 d v∧WOk X.K H1 θ1 μ1∧Grow H θ μ H1 θ1 μ1∧wRvl (some m) d μ1 Qd) I ⟨ρ,θ,μ,_,sm,h,fun d v H1 θ1 μ1 w1 g1 r1 h1=>⟨d,θ1,μ1,r1,w1,g1,h1⟩⟩) fun u s1 ⟨x,H1,I1,rx,d,θ1,μ1,rd,w1,g1,hq⟩=>?_)
 refine Calls.spliced_nil ?_
 simp only [wRvl] at hq
 split at hq
 ·rename_i as ha
  obtain ⟨a,xs,rfl,sa,ra⟩:=Vl w1 rd ha
  cases rx
  obtain ⟨i1,v1,p1,z1⟩:=I1.list sa
  have hlen:i1.toArray.size=as.length:=by rw [ra.length,v1.length]; simp
  have alt:a < s1.heap.objs.size:=by obtain ⟨o,ho,_⟩:=p1.isList; exact Heap.lt_size ho
  refine call_reversed_list p1.isList (Calls.spliced_nil ?_)
  have I2:Inv X pins σ H1 { s1 with heap:=s1.heap.push (revObj a ((i1.toArray.size:Int) - 1)) }:=I1.kept (t':=s1.toks) fun b o e=>Heap.get?_push_of_some _ e
  have st:(s1.heap.push (revObj a ((i1.toArray.size:Int) - 1))).IsRevIter s1.heap.objs.size a ((i1.toArray.size:Int) - 1):=⟨_,Heap.get?_push_size _ rfl,rfl,rfl⟩
  have hz:i1.toArray.size≤sizeLine:=by rw [hlen,ra.length]; exact z1
  refine Vao (I2.ok.hd hc) (Nat.ne_of_lt alt) st (p1.isList.at fun o e=>Heap.get?_push_of_some _ e) hz fun h' tk acc' c' kp e it=>?_
  have vs:=Ybb v1 it
  have kp':∀ b o,s1.heap.get? b=some o→h'.get? b=some o:=fun b o q=>kp b o (Nat.ne_of_lt (Heap.lt_size q)) (Heap.get?_push_of_some _ q)
  have hfr:s1.heap.objs.size≤(s1.heap.push (revObj a ((i1.toArray.size:Int) - 1))).objs.size:=by simp [size_push']
  refine ⟨.ref _,_,I1.laid (t':=tk) kp' hfr (show ObjOk X.prog X.w _ h' _ (.lst xs.reverse) from ⟨by simpa using z1,acc'.toList,c',vs,by simpa using e⟩),rfl,?_⟩
  exact Yp w1 (fun d v H2 θ2 μ2 w2 g2 r2 q2=>f d v H2 θ2 μ2 w2 (g1.trans g2) r2 q2) ra.reverse hq (I1.hok.fresh hfr)
 ·exact hq.elim
end
end DW
end
section
set_option autoImplicit false
set_option maxHeartbeats 2000000
namespace DW
open PySem PySem.Spec PyProof.Rows L2
theorem norev_tup:typeLookup (.type "tuple") "__reversed__" = pure none:=by rw [typeLookup_type,builtinLookup_eq_fast]; kernel_rfl
theorem Xaj:Slot "reversed" "__init__" "object.__init__" :=
 .of (owner:="object") (n:="__init__") (by rw [typeLookup_type,builtinLookup_eq_fast]; kernel_rfl) (by decide +kernel) (by decide +kernel) (by decide +kernel)
  (by first | exact .inl (by decide +kernel) | exact .inr (by decide +kernel)) (by rw [isSubtype_type]; kernel_rfl)
theorem slot_rvt_next:Slot "reversed" "__next__" "reversed.__next__" :=
 .of (owner:="reversed") (n:="__next__") (by rw [typeLookup_type,builtinLookup_eq_fast]; kernel_rfl) (by decide +kernel) (by decide +kernel) (by decide +kernel)
  (by first | exact .inl (by decide +kernel) | exact .inr (by decide +kernel)) (by rw [isSubtype_type]; kernel_rfl)
theorem Yu:Slot "reversed" "__iter__" "reversed.__iter__" :=
 .of (owner:="reversed") (n:="__iter__") (by rw [typeLookup_type,builtinLookup_eq_fast]; kernel_rfl) (by decide +kernel) (by decide +kernel) (by decide +kernel)
  (by first | exact .inl (by decide +kernel) | exact .inr (by decide +kernel)) (by rw [isSubtype_type]; kernel_rfl)
theorem slot_rvt_hint:Slot "reversed" "__length_hint__" "reversed.__length_hint__" :=
 .of (owner:="reversed") (n:="__length_hint__") (by rw [typeLookup_type,builtinLookup_eq_fast]; kernel_rfl) (by decide +kernel) (by decide +kernel) (by decide +kernel)
  (by first | exact .inl (by decide +kernel) | exact .inr (by decide +kernel)) (by rw [isSubtype_type]; kernel_rfl)
theorem Vr:entryFor table "reversed.__next__" = some Builtin.«reversed.__next__»:=entryFor_of_tree (by kernel_rfl)
theorem Xad:entryFor table "reversed.__length_hint__" = some Builtin.«reversed.__length_hint__»:=entryFor_of_tree (by kernel_rfl)
theorem Yad:entryFor table "reversed.__iter__" = some Builtin.«dict_keyiterator.__iter__» :=
 entryFor_alias (id':="dict_keyiterator.__iter__") (by kernel_rfl) (by first | rfl | decide +kernel | (unfold String.splitOn; simp +decide [String.splitOnAux])) (by decide +kernel) (by kernel_rfl)
theorem called_rvt:TypeCalled "reversed" "reversed.__new__" "object.__init__" :=
 ⟨by decide +kernel,by decide +kernel,⟨_,_,F.mro_reversed⟩,F.made_reversed,by decide +kernel,by rw [isSubtype_type]; kernel_rfl,Xaj⟩
theorem Xx (a:Value):argsOk "reversed.__next__" ⟨[a],[]⟩:=by unfold argsOk; kernel_rfl
theorem Wap (a:Value):argsOk "reversed.__iter__" ⟨[a],[]⟩:=by unfold argsOk; kernel_rfl
theorem Vap (a:Value):argsOk "reversed.__length_hint__" ⟨[a],[]⟩:=by unfold argsOk; kernel_rfl
theorem nolen_rvt:typeLookup (.type "reversed") "__len__" = pure none:=by rw [typeLookup_type,builtinLookup_eq_fast]; kernel_rfl
noncomputable def Xu (l:Addr) (i:Int):Obj:={ cls:=.type "reversed",data:=.fields #[.ref l,rawInt i] }
theorem Yal (l:Addr) (items:Array Value) (hz:items.size≤sizeLine):Meets (Builtin.«reversed.__new__» ⟨[.type "reversed",.ref l],[]⟩)
  (fun _ R s=>IsTup s.heap l items∧∀ tk,R (.ok (.ret (.ref s.heap.objs.size))) { s with heap:=s.heap.push (Xu l ((items.size:Int) - 1)),toks:=tk }) :=
 .of_wp fun prog w A R s h=>by
  obtain ⟨hl,h⟩:=h
  unfold Builtin.«reversed.__new__»
  refine wpAny_bind (wpAny_of_eq (newClass_reversed _) ?_)
  try dsimp only
  refine wpAny_bind (wpAny_of_eq (a:=()) (by first | rfl | kernel_rfl) ?_)
  refine wpAny_bind (wpAny_of_eq (a:=()) (by first | rfl | kernel_rfl) ?_)
  try dsimp only
  refine wpAny_bind (wpAny_specialOf hl.typeIs norev_tup ?_)
  try dsimp only
  refine wpAny_bind ?_
  wp_delta
  refine wpAny_bind (wpAny_isInstance (T:="tuple") (b:=false) hl.typeIs Xat ?_)
  rw [if_neg (by decide)]
  refine wpAny_bind (wpAny_specialOf hl.typeIs PyProof.Rows.slot_tuple_getitem.lookup ?_)
  dsimp only
  rw [if_pos (by decide +kernel)]
  refine wpAny_pure ?_
  rw [if_neg (by decide)]
  have h63:(items.size:Int) < 2 ^ 63:=by rw [sizeLine_eq] at hz; omega
  refine wpAny_bind (len_tuple hl h63 ?_)
  refine wpAny_bind (m:=asInt? _) (wpAny_pure ?_)
  dsimp only
  refine wpAny_bind ?_
  unfold Builtin.SmallTypes.newRecord
  dsimp only
  refine wpAny_newObj_type ?_ (by size_fits)
  exact wpAny_pure ⟨_,rfl,h _⟩
section
variable {prog:Program} {w:World} {A:Around} {E:Value→Shared→Prop} {s:Shared}
theorem Y0 {l:Addr} {items:Array Value} {Q:Value→Shared→Prop} (hl:IsTup s.heap l items) (hz:items.size≤sizeLine)
  (h:∀ tk,Q (.ref s.heap.objs.size) { s with heap:=s.heap.push (Xu l ((items.size:Int) - 1)),toks:=tk }):wpAny (model prog w) A (call (.type "reversed") [.ref l]) Q E s:=by
 refine callType_new called_rvt (by decide) (F.typeCall_reversed_1 _) (F.newCall_reversed_1 _) (fun obj=>F.args_object_init_2 obj _) F.entry_reversed_new (Yal l items hz) ⟨hl,fun tk=>?_⟩
 exact ⟨⟨_,Heap.get?_push_size _ rfl,rfl⟩,h tk⟩
noncomputable def V0 (h:Heap) (a l:Addr) (i:Int):Prop:=h.get? a=some (Xu l i)
theorem tupAt {l:Addr} {i:Nat} {items:Array Value} {x:Value} {t:Tok} {Q:Value→Shared→Prop} (hl:IsTup s.heap l items) (hx:items[i]? = some x) (hz:items.size≤sizeLine) (h:Q x s):wpAny (model prog w) A (getItem (.ref l) (.int (i:Int) t)) Q E s:=by
 have hi:i < items.size:=by
  rcases Nat.lt_or_ge i items.size with q | q
  ·exact q
  ·rw [Array.getElem?_eq_none q] at hx; cases hx
 have hz':items.size≤16777216:=by rw [← sizeLine_eq]; exact hz
 refine PyProof.Rows.getItem_tuple (j:=i) (x:=x) hl (by omega) (by omega) ?_ hx h
 unfold seqIndex?
 first
  | (simp [hi]; done)
  | (simp; omega)
  | (split <;> simp <;> omega)
theorem Wak {it l:Addr} {i:Nat} {items:Array Value} {x:Value} {Q:Option Value→Shared→Prop} (hit:V0 s.heap it l (i:Int)) (hl:IsTup s.heap l items) (hx:items[i]? = some x) (hz:items.size≤sizeLine)
  (hQ:∀ h' tk,V0 h' it l ((i:Int) - 1)→Heap.SameBut it s.heap h'→Q (some x) { s with heap:=h',toks:=tk }):wpAny (model prog w) A (pyNext (.ref it)) Q E s:=by
 have hT:s.TypeIs (.ref it) "reversed":=⟨_,hit,rfl⟩
 unfold pyNext
 refine wpAny_bind (wpAny_attempt (wpAny_callSpecial?_slot (name:=Str.ofString "__next__") hT slot_rvt_next
  (wpAny_call_entry slot_rvt_next hT Vr ?_ (Xx _))))
 unfold Builtin.«reversed.__next__»
 refine wpAny_bind (wpAny_of_eq (a:=(Value.ref it,[])) rfl ?_)
 try dsimp only
 refine wpAny_bind (wpAny_field hit rfl (x:=.ref l) rfl ?_)
 refine wpAny_bind (wpAny_field hit rfl (x:=rawInt (i:Int)) rfl ?_)
 show wpAny _ _ (if (i:Int) < 0 then _ else _) _ _ s
 rw [if_neg (by omega)]
 refine wpAny_bind (wpAny_specialOf hl.typeIs PyProof.Rows.slot_tuple_getitem.lookup ?_)
 rw [if_neg (by decide)]
 refine wpAny_bind (wpAny_mkInt ?_)
 refine wpAny_bind (wpAny_attempt (tupAt hl hx hz ?_))
 dsimp only
 refine wpAny_bind (wpAny_field (s:={ s with toks:=s.toks + 1 }) hit rfl (x:=rawInt (i:Int)) rfl ?_)
 show wpAny _ _ (setField (.ref it) 1 (rawInt ((i:Int) - 1)) >>= _) _ _ _
 refine wpAny_bind (wpAny_setField (s:={ s with toks:=s.toks + 1 }) hit rfl (by simp [Xu]) ?_)
 refine wpAny_pure ⟨x,rfl,wpAny_pure (hQ _ _ ?_ (Heap.SameBut.update ..))⟩
 have:=Heap.get?_update_self (Obj.mapFields fun f=>f.setIfInBounds 1 (rawInt ((i:Int) - 1))) hit rfl
 exact this
theorem Vav {it l:Addr} {Q:Option Value→Shared→Prop} (hh:A.handled=none) (hit:V0 s.heap it l (-1))
  (hQ:∀ h',Heap.ExtBut it s.heap h'→Q none { s with heap:=h' }):wpAny (model prog w) A (pyNext (.ref it)) Q E s:=by
 have hT:s.TypeIs (.ref it) "reversed":=⟨_,hit,rfl⟩
 unfold pyNext
 refine wpAny_bind (wpAny_attempt (wpAny_callSpecial?_slot (name:=Str.ofString "__next__") hT slot_rvt_next
  (wpAny_call_entry slot_rvt_next hT Vr ?_ (Xx _))))
 unfold Builtin.«reversed.__next__»
 refine wpAny_bind (wpAny_of_eq (a:=(Value.ref it,[])) rfl ?_)
 try dsimp only
 refine wpAny_bind (wpAny_field hit rfl (x:=.ref l) rfl ?_)
 refine wpAny_bind (wpAny_field hit rfl (x:=rawInt (-1)) rfl ?_)
 show wpAny _ _ (if (-1:Int) < 0 then _ else _) _ _ s
 rw [if_pos (by decide)]
 refine wpAny_bind (wpAny_rule ?_)
 refine wpAny_bind ?_
 wp_delta
 refine wpAny_bind (wpAny_setField hit rfl (by simp [Xu]) ?_)
 have hit2:=Heap.get?_update_self (Obj.mapFields fun f=>f.setIfInBounds 1 (rawInt (-1))) hit rfl
 refine wpAny_setField (s:={ s with heap:=s.heap.update it (Obj.mapFields fun f=>f.setIfInBounds 1 (rawInt (-1))) }) hit2 rfl (by simp [Xu,Obj.mapFields]) ?_
 refine wpAny_bind ?_
 unfold Builtin.SmallTypes.stopIteration
 first
 | show wpAny _ _ (newExc (.type "StopIteration") [] >>= _) _ _ _
 | (refine wpAny_bind ?_; show wpAny _ _ (newExc (.type "StopIteration") [] >>= _) _ _ _)
 refine wpAny_bind ?_
 simp only [newExc,newTuple]
 refine wpAny_bind (wpAny_newObj_type ?_ (by size_fits))
 refine wpAny_bind (m:=firstArgMember _ _) (wpAny_of_eq (a:=Value.none) (by first | rfl | (simp only [firstArgMember]; rfl)) ?_)
 refine wpAny_newObj_type ?_ (by size_fits)
 simp only [raiseNew]
 refine wpAny_bind (wpAny_handled ?_)
 first | rw [show A.in1.handled=none from hh] | rw [hh]
 refine wpAny_bind (wpAny_pure (wpAny_throw ?_))
 refine wpAny_bind (wpAny_isInstance (T:="StopIteration") (b:=true) ⟨_,Heap.get?_push_size _ rfl,rfl⟩ isSubtype_stop ?_)
 refine wpAny_pure (hQ _ ?_)
 refine ((Heap.ExtBut.push ?_ _).push _)
 intro b o hb e
 rw [Heap.get?_update_ne _ _ _ _ hb,Heap.get?_update_ne _ _ _ _ hb]
 exact e
theorem iter_rvt {it l:Addr} {i:Int} {Q:Value→Shared→Prop} (hit:V0 s.heap it l i) (h:Q (.ref it) s):wpAny (model prog w) A (pyIter (.ref it)) Q E s:=by
 have hT:s.TypeIs (.ref it) "reversed":=⟨_,hit,rfl⟩
 refine wpAny_pyIter_slot hT Yu (wpAny_call_entry Yu hT Yad ?_ (Wap _))
 show wpAny _ _ (ret (.ref it)) _ _ s
 exact wpAny_pure ⟨_,rfl,"reversed",_,hT,slot_rvt_next.lookup,h⟩
end
theorem IsTup.atK {h h':Heap} {l:Addr} {items:Array Value} (x:IsTup h l items) (e:∀ o,h.get? l=some o→h'.get? l=some o):IsTup h' l items:=let ⟨o,ho,r⟩:=x; ⟨o,e _ ho,r⟩
theorem walks_rvt {prog:Program} {w:World} {A:Around} (hh:A.handled=none) (I l:Addr) (hne:l≠I) (items:Array Value) (hz:items.size≤sizeLine) :
  Walks prog w A I [I,l] [I] items.size (fun i v=>items[items.size - 1 - i]? = some v) (fun i h=>i≤items.size∧V0 h I l ((items.size:Int) - 1 - (i:Int))∧IsTup h l items) where
 sub:=fun b hb=>by simp at hb; simp [hb]
 frame:=fun _ _ _ x hk=>⟨x.1,hk I (by simp) _ x.2.1,DW.IsTup.atK x.2.2 fun o e=>hk l (by simp) o e⟩
 item:=fun i s Q E hi x hQ=>by
  have e:(items.size:Int) - 1 - (i:Int)=((items.size - 1 - i:Nat):Int):=by omega
  have hit:=x.2.1
  rw [e] at hit
  have hx:items[items.size - 1 - i]? = some (items[items.size - 1 - i]'(by omega)):=Array.getElem?_eq_getElem (by omega)
  refine Wak hit x.2.2 hx hz fun h' tk hit' hs'=>?_
  have e2:((items.size - 1 - i:Nat):Int) - 1=(items.size:Int) - 1 - ((i + 1:Nat):Int):=by omega
  rw [e2] at hit'
  exact hQ _ h' tk hx ⟨hi,hit',DW.IsTup.atK x.2.2 fun o eo=>(hs'.2 l hne).trans eo⟩ fun b o hb eo=>hs'.extBut b o (fun h=>hb (by simp [h])) eo
 done:=fun s Q E x hQ=>by
  have e:(items.size:Int) - 1 - (items.size:Int) = -1:=by omega
  have hit:=x.2.1
  rw [e] at hit
  exact Vav hh hit fun h' he'=>hQ h' s.toks fun b o hb eo=>he' b o (fun h=>hb (by simp [h])) eo
 self:=fun _ _ _ _ x hQ=>iter_rvt x.2.1 hQ
end DW
end
section
set_option autoImplicit false
set_option maxHeartbeats 2000000
namespace DW
open PySem PySem.Spec PyProof.Rows L2
theorem bind_rvt (self:Value):bindSpecial (.builtin "reversed.__length_hint__") self=pure (.builtin "reversed.__length_hint__",[self]):=rfl
section
variable {prog:Program} {w:World} {A:Around} {E:Value→Shared→Prop} {s:Shared}
theorem Wao {it l:Addr} {items:Array Value} {Q:Value→Shared→Prop} (hit:V0 s.heap it l ((items.size:Int) - 1)) (hl:IsTup s.heap l items) (hz:items.size≤sizeLine)
  (h:∀ t tk,s.toks≤tk→Q (.int (items.size:Int) t) { s with toks:=tk }):wpAny (model prog w) A (call (.builtin "reversed.__length_hint__") [.ref it]) Q E s:=by
 have hT:s.TypeIs (.ref it) "reversed":=⟨_,hit,rfl⟩
 refine wpAny_call_entry slot_rvt_hint hT Xad ?_ (Vap _)
 unfold Builtin.«reversed.__length_hint__»
 refine wpAny_bind (wpAny_of_eq (a:=Value.ref it) rfl ?_)
 refine wpAny_bind (wpAny_field hit rfl (x:=.ref l) rfl ?_)
 rw [show (Value.ref l == Value.none)=false from rfl]
 rw [if_neg (by decide)]
 have h63:(items.size:Int) < 2 ^ 63:=by rw [sizeLine_eq] at hz; omega
 refine wpAny_bind (len_tuple hl h63 ?_)
 refine wpAny_bind (m:=asInt? _) (wpAny_pure ?_)
 dsimp only
 refine wpAny_bind (wpAny_field (s:={ s with toks:=s.toks + 1 + 1 }) hit rfl (x:=rawInt ((items.size:Int) - 1)) rfl ?_)
 show wpAny _ _ (if (items.size:Int) < ((items.size:Int) - 1) + 1 then _ else _) _ _ _
 rw [if_neg (by omega)]
 have e:((items.size:Int) - 1) + 1=(items.size:Int):=by omega
 rw [e]
 unfold retInt
 refine wpAny_bind (wpAny_mkInt ?_)
 exact wpAny_pure ⟨_,rfl,h _ _ (by show s.toks≤s.toks + 1 + 1 + 1; omega)⟩
theorem hint_rvt {it l:Addr} {items:Array Value} {Q:Bool→Shared→Prop} (hit:V0 s.heap it l ((items.size:Int) - 1)) (hl:IsTup s.heap l items) (hz:items.size≤sizeLine)
  (h:∀ b tk,s.toks≤tk→Q b { s with toks:=tk }):wpAny (model prog w) A (Builtin.List.listLengthHint (.ref it)) Q E s:=by
 have hT:s.TypeIs (.ref it) "reversed":=⟨_,hit,rfl⟩
 unfold Builtin.List.listLengthHint
 refine wpAny_bind (wpAny_specialOf hT nolen_rvt ?_)
 show wpAny _ A (specialOf (Value.ref it) (Str.ofString "__length_hint__") >>= _) _ _ _
 refine wpAny_bind (wpAny_specialOf hT slot_rvt_hint.lookup ?_)
 generalize hid:("reversed.__length_hint__" : String)=id0
 wp_delta
 rw [show splitId id0=some ("reversed","__length_hint__") from by subst hid; decide +kernel]
 subst hid
 refine wpAny_bind (wpAny_isInstance (b:=true) hT (by rw [isSubtype_type]; kernel_rfl) ?_)
 refine wpAny_ite_split (fun hab=>absurd hab (by decide)) (fun _=>?_)
 refine wpAny_ite_split (fun hab=>absurd hab (by decide +kernel)) (fun _=>?_)
 refine wpAny_bind (wpAny_rule ?_)
 refine wpAny_bind (wpAny_of_eq (bind_rvt _) ?_)
 refine wpAny_bind (wpAny_attempt (Wao hit hl hz fun t tk ht=>?_))
 have hz':items.size≤16777216:=by rw [← sizeLine_eq]; exact hz
 have htl:Builtin.List.listTooLong ((items.size:Int).toNat)=false:=by simp [Builtin.List.listTooLong,sizeLine]; omega
 dsimp only
 refine wpAny_bind ?_
 refine wpAny_pure (a:=some (items.size:Int)) ?_
 dsimp only
 have hf:(!Builtin.List.listFitsIndex (items.size:Int))=false:=by simp [Builtin.List.listFitsIndex]; omega
 rw [hf,htl]
 rw [if_neg (by decide),if_neg (by omega),if_neg (by decide)]
 exact wpAny_pure (h _ _ ht)
theorem Wa8 {it l:Addr} {items:Array Value} {Q:List Value→Shared→Prop} (hh:A.handled=none) (hne:l≠it) (hit:V0 s.heap it l ((items.size:Int) - 1)) (hl:IsTup s.heap l items) (hz:items.size≤sizeLine)
  (hQ:∀ (h':Heap) (tk:Nat) (acc:Array Value),(∀ b o,b≠it→s.heap.get? b=some o→h'.get? b=some o)→ItemsOf (fun i v=>items[items.size - 1 - i]? = some v) acc items.size→Q acc.toList { s with heap:=h',toks:=tk }) :
  wpAny (model prog w) A (collect (.ref it)) Q E s:=by
 have lt1:it < s.heap.objs.size:=Heap.lt_size hit
 have lt2:l < s.heap.objs.size:=by obtain ⟨o,ho,_⟩:=hl; exact Heap.lt_size ho
 have hSI:s.heap.objs.size≠it:=Ne.symm (Nat.ne_of_lt lt1)
 have hSf:s.heap.objs.size ∉ [it,l]:=by simp [hSI,Ne.symm (Nat.ne_of_lt lt2)]
 unfold collect
 refine wpAny_bind (wpAny_runValue (codeAny_builtin F.entry_proto_collect ?_))
 rw [Around.under_plainId F.plain_proto_collect _]
 show wpAny _ A.in1 (newList [] >>= fun l=>again (.builtin "list.__iadd__" ⟨[l,.ref it],[]⟩)) _ _ s
 refine wpAny_bind (wpAny_newObj_type ?_)
 refine wpAny_pure ⟨plainId_quiet F.plain_list_iadd _,codeAny_builtin F.entry_list_iadd ?_⟩
 rw [Around.under_plainId F.plain_list_iadd _]
 have hS₁:(s.heap.push { cls:=.type "list",data:=.seq ([]:List Value).toArray }).get? s.heap.objs.size=some { cls:=.type "list",data:=.seq ([]:List Value).toArray }:=Heap.get?_push_size _ rfl
 have h1:Builtin.List.listSameRef (.ref s.heap.objs.size) (.ref it)=false:=by simp [Builtin.List.listSameRef,hSI]
 have hit1:V0 (s.heap.push { cls:=.type "list",data:=.seq ([]:List Value).toArray }) it l ((items.size:Int) - 1):=Heap.get?_push_of_some _ hit
 have hl1:IsTup (s.heap.push { cls:=.type "list",data:=.seq ([]:List Value).toArray }) l items:=DW.IsTup.atK hl fun o e=>Heap.get?_push_of_some _ e
 show wpAny _ A.in1 (Builtin.List.listExtendWith (.ref s.heap.objs.size) (.ref it) (.ref s.heap.objs.size)) _ _ _
 unfold Builtin.List.listExtendWith
 refine wpAny_bind (wpAny_typeOf (T:="reversed") ⟨_,hit1,rfl⟩ ?_)
 rw [if_neg (by rw [h1]; decide)]
 refine wpAny_bind (iter_rvt hit1 ?_)
 refine wpAny_bind (wpAny_holding (hint_rvt hit1 hl1 hz fun b tk ht=>?_))
 have W:=(walks_rvt (prog:=prog) (w:=w) (A:=A.in1) hh it l hne items hz).toS
 have oth0:∀ b o,s.heap.get? b=some o→(s.heap.push { cls:=.type "list",data:=.seq ([]:List Value).toArray }).get? b=some o:=fun b o e=>Heap.get?_push_of_some _ e
 have key:∀ (h:Heap) (c₁ tk:Nat),V0 h it l ((items.size:Int) - 1)→IsTup h l items→(∀ b o,s.heap.get? b=some o→h.get? b=some o) →
   h.get? s.heap.objs.size=some { cls:=.type "list",data:=.seq #[] c₁ }→codeAny (model prog w) A (.builtin "list.extend.loop" ⟨[.ref s.heap.objs.size,.ref it,.ref s.heap.objs.size],[]⟩) (fun r s'=>∃ (h':Heap) (tk:Nat) (acc:Array Value) (c':Nat),r = .ok (.ret (.ref s.heap.objs.size))∧s'={ s with heap:=h',toks:=tk }∧(∀ b o,b≠it→s.heap.get? b=some o→h'.get? b=some o)∧h'.get? s.heap.objs.size=some { cls:=.type "list",dict:=none,data:=.seq acc c',slots:=#[] }∧ItemsOf (fun i v=>items[items.size - 1 - i]? = some v) acc items.size) { s with heap:=h,toks:=tk }:=by
  intro h c₁ tk hi2 hl2 hk hS₁
  refine codeAny_extend_loopS W hz _ hSf _ items.size 0 _ #[] c₁ rfl (Nat.zero_le _) ⟨Nat.zero_le _,by simpa using hi2,hl2⟩ hS₁ (ItemsOf.nil _) fun s' acc' c' hm hS' hacc=>?_
  rw [Moved.eq_with hm]
  refine ⟨s'.heap,s'.toks,acc',c',rfl,rfl,(fun b o hb e=>hm.heap b o (fun hmem=>?_) (hk b o e)),hS',hacc⟩
  rcases List.mem_cons.mp hmem with e' | hmem
  ·exact absurd (Heap.lt_size e) (by rw [e']; exact Nat.lt_irrefl _)
  ·exact hb (List.mem_singleton.mp hmem)
 have fin':∀ (h':Heap) (tk:Nat) (acc:Array Value) (c':Nat),(∀ b o,b≠it→s.heap.get? b=some o→h'.get? b=some o)→h'.get? s.heap.objs.size=some { cls:=.type "list",dict:=none,data:=.seq acc c',slots:=#[] }→ItemsOf (fun i v=>items[items.size - 1 - i]? = some v) acc items.size →
   wpAny (model prog w) A (load s.heap.objs.size >>= fun o=>match o.data with | .seq vs _=>pure vs.toList | _=>unsupported "internal:collect") Q E { s with heap:=h',toks:=tk }:=fun h' tk acc c' hk hS' hacc=>wpAny_bind (wpAny_load hS' (wpAny_pure (hQ h' tk acc hk hacc)))
 refine wpAny_ite_split (fun _=>?_) (fun _=>wpAny_pure ⟨plainId_quiet F.plain_extend_loop _,codeAny_mono (key _ 0 _ hit1 hl1 oth0 hS₁) fun r s'' hr=>by obtain ⟨h',tk,acc,c',rfl,rfl,hk,hS',hacc⟩:=hr; exact fin' h' tk acc c' hk hS' hacc⟩)
 refine wpAny_bind (wpAny_rule ?_)
 refine wpAny_bind ?_
 show wpAny _ _ (updateSeq s.heap.objs.size (·.push .none) >>= fun _=>updateSeq s.heap.objs.size (·.pop)) _ _ _
 refine wpAny_bind (wpAny_updateSeq hS₁ rfl ?_)
 have hS₂:=Heap.get?_update_self (Obj.mapSeq (·.push Value.none)) hS₁ rfl
 refine wpAny_updateSeq (hz:=by seq_fits) hS₂ rfl ?_
 have hS₃:=Heap.get?_update_self (Obj.mapSeq (·.pop)) hS₂ rfl
 have oth:∀ b o,b≠s.heap.objs.size→(s.heap.push { cls:=.type "list",data:=.seq ([]:List Value).toArray }).get? b=some o→(((s.heap.push { cls:=.type "list",data:=.seq ([]:List Value).toArray }).update s.heap.objs.size (Obj.mapSeq (·.push Value.none))).update s.heap.objs.size (Obj.mapSeq (·.pop))).get? b=some o:=fun b o hb e=>(Heap.get?_update_other _ _ (Ne.symm hb)).trans ((Heap.get?_update_other _ _ (Ne.symm hb)).trans e)
 refine wpAny_pure ⟨plainId_quiet F.plain_extend_loop _,codeAny_mono (key _ _ _ (oth it _ (Ne.symm hSI) hit1) (DW.IsTup.atK hl1 fun o e=>oth l o (Nat.ne_of_lt lt2) e) (fun b o e=>oth b o (Nat.ne_of_lt (Heap.lt_size e)) (oth0 b o e)) hS₃) fun r s'' hr=>by obtain ⟨h',tk,acc,c',rfl,rfl,hk,hS',hacc⟩:=hr; exact fin' h' tk acc c' hk hS' hacc⟩
end
theorem Y9 (it l:Addr) (items:Array Value) (hne:l≠it) (hz:items.size≤sizeLine) :
  Meets (Builtin.«tuple.__new__» ⟨[.type "tuple",.ref it],[]⟩)
   (fun A R s=>A.handled=none∧(V0 s.heap it l ((items.size:Int) - 1)∧IsTup s.heap l items)∧∀ (h':Heap) (tk:Nat) (acc:Array Value),(∀ b o',b≠it→s.heap.get? b=some o'→h'.get? b=some o')→ItemsOf (fun i v=>items[items.size - 1 - i]? = some v) acc items.size→R (.ok (.ret (.ref h'.objs.size))) { s with heap:=h'.push { cls:=.type "tuple",data:=.seq acc },toks:=tk }) :=
 .of_wp fun prog w A R s h=>by
  obtain ⟨hp,g,d,tk,os⟩:=s; obtain ⟨hh,⟨hit,hl⟩,h⟩:=h
  have hsub:=sub_tuple_self
  have hinit:=init_tuple_lookup
  have hmh:=madeHere_tuple
  have hh':A.in1.handled=none:=hh
  have hT:Shared.TypeIs ⟨hp,g,d,tk,os⟩ (.ref it) "reversed":=⟨_,hit,rfl⟩
  have hit':hp.get? it=some (Xu l ((items.size:Int) - 1)):=hit
  wp_walk using wpAny_loadPart' hit',wpAny_typeOf hT,Wa8 hh' hne hit hl hz
  intro h' tk' acc hk hi
  show wpAny _ _ (Builtin.Tuple.tupleExact acc.toList.toArray >>= fun v=>ret v) _ _ _
  unfold Builtin.Tuple.tupleExact
  have hz2:acc.size=items.size:=hi.1
  refine wpAny_bind (wpAny_newObj_type ?_ (by show acc.toList.toArray.size≤sizeLine; simp; omega))
  refine wpAny_pure ⟨_,rfl,?_⟩
  have e:acc.toList.toArray=acc:=by simp
  rw [e]
  exact h h' tk' acc hk hi
theorem Wad {prog:Program} {w:World} {A:Around} {E:Value→Shared→Prop} {s:Shared} {Q:Value→Shared→Prop} {it l:Addr} {items:Array Value} (hh:A.handled=none) (hne:l≠it) (hit:V0 s.heap it l ((items.size:Int) - 1)) (hl:IsTup s.heap l items) (hz:items.size≤sizeLine)
  (h:∀ (h':Heap) (tk:Nat) (acc:Array Value),(∀ b o',b≠it→s.heap.get? b=some o'→h'.get? b=some o')→ItemsOf (fun i v=>items[items.size - 1 - i]? = some v) acc items.size→Q (.ref h'.objs.size) { s with heap:=h'.push { cls:=.type "tuple",data:=.seq acc },toks:=tk }) :
  wpAny (model prog w) A (call (.type "tuple") [.ref it]) Q E s :=
 callType_new F.called_tuple (by decide) (F.typeCall_tuple_1 _) (F.newCall_tuple_1 _) (fun obj=>F.args_object_init_2 obj _) F.entry_tuple_new
  (Y9 it l items hne hz) ⟨hh,⟨hit,hl⟩,fun h' tk acc hk hi=>⟨⟨_,Heap.get?_push_size _ rfl,rfl⟩,h h' tk acc hk hi⟩⟩
section
variable {X:Cx}
theorem pe_trev {l:Expr} {wl:WE} {y y2:Str} {p p2 pos pos2:Pos} (hc:X.calm=true) (ey:y=Str.ofString "tuple") (ey2:y2=Str.ofString "reversed") (hg:Gl X y) (hm:X.mg y=none) (hg2:Gl X y2) (hm2:X.mg y2=none) (he:PE X l (LE X.K wl))
  (hs:starEach [l] X.env=[(false,eval l X.env)]) (hs2:starEach [.Call (.Name y2 p2) [l] [] pos2] X.env=[(false,eval (.Call (.Name y2 p2) [l] [] pos2) X.env)]) :
  PE X (.Call (.Name y p) [.Call (.Name y2 p2) [l] [] pos2] [] pos) (LE X.K fun ρ μ Q=>wl ρ μ fun d μ1=>wRvl none d μ1 Q):=by
 subst ey ey2
 intro pins s σ H Q I h
 obtain ⟨ρ,θ,μ,Qd,sm,h,f⟩:=h
 refine Call_ (Wr I hg hm (show bootBuiltins (Str.ofString "tuple")=some (.type "tuple") by decide +kernel) (PyProof.Rows.callWith_type1 ?_ hs2 rfl) (by decide +kernel) (by decide +kernel))
 rw [hs2]
 refine Calls.spliced_cons ?_
 refine Call_ (Wr I hg2 hm2 boot_rvd (PyProof.Rows.callWith_type1 ?_ hs rfl))
 rw [hs]
 refine Calls.spliced_cons (thn (he pins s σ H (fun v H1=>∃ d θ1 μ1,Rp X.K H1 θ1 μ1 d v∧WOk X.K H1 θ1 μ1∧Grow H θ μ H1 θ1 μ1∧wRvl none d μ1 Qd) I ⟨ρ,θ,μ,_,sm,h,fun d v H1 θ1 μ1 w1 g1 r1 h1=>⟨d,θ1,μ1,r1,w1,g1,h1⟩⟩) fun u s1 ⟨x,H1,I1,rx,d,θ1,μ1,rd,w1,g1,hq⟩=>?_)
 refine Calls.spliced_nil ?_
 simp only [wRvl] at hq
 split at hq
 ·rename_i as
  obtain ⟨a,xs,rfl,h1,_,ra⟩:=We rd
  cases rx
  obtain ⟨i1,v1,p1,z1⟩:=I1.tuple (.of h1)
  have hlen:i1.toArray.size=as.length:=by rw [ra.length,v1.length]; simp
  have hz:i1.toArray.size≤sizeLine:=by rw [hlen,ra.length]; exact z1
  have alt:a < s1.heap.objs.size:=by obtain ⟨o,ho,_⟩:=p1; exact Heap.lt_size ho
  refine Y0 p1 hz fun tk0=>(Calls.spliced_nil ?_)
  have I2:Inv X pins σ H1 { s1 with heap:=s1.heap.push (Xu a ((i1.toArray.size:Int) - 1)),toks:=tk0 }:=I1.kept (t':=tk0) fun b o e=>Heap.get?_push_of_some _ e
  have st:V0 (s1.heap.push (Xu a ((i1.toArray.size:Int) - 1))) s1.heap.objs.size a ((i1.toArray.size:Int) - 1):=Heap.get?_push_size _ rfl
  refine Wad (I2.ok.hd hc) (Nat.ne_of_lt alt) st (DW.IsTup.atK p1 fun o e=>Heap.get?_push_of_some _ e) hz fun h' tk acc' kp it=>?_
  have vs:=Ybb v1 it
  have kp':∀ b o,s1.heap.get? b=some o→h'.get? b=some o:=fun b o q=>kp b o (Nat.ne_of_lt (Heap.lt_size q)) (Heap.get?_push_of_some _ q)
  have I3:=I1.kept (t':=tk) kp'
  have fr:=I3.hok.fresh (Nat.le_refl _)
  refine ⟨.ref _,_,I3.laid (t':=tk) (fun b o e=>Heap.get?_push_of_some _ e) (Nat.le_refl _) (show ObjOk X.prog X.w _ _ _ (.tup xs.reverse) from ⟨by simpa using z1,acc'.toList,vs,⟨_,Heap.get?_push_size h' rfl,rfl,0,by simp,rfl⟩⟩),rfl,?_⟩
  exact Yz w1 (fun d v H2 θ2 μ2 w2 g2 r2 q2=>f d v H2 θ2 μ2 w2 (g1.trans g2) r2 q2) ra.reverse hq fr
 ·exact hq.elim
end
end DW
end
section
set_option autoImplicit false
namespace DW
open PySem PySem.Spec PyProof.Rows L2
section
variable {X:Cx}
theorem kw_max (a v:Value):checkBuiltinCall "max" ⟨[a],[(Str.ofString "default",v)]⟩=pure ():=by kernel_rfl
end
theorem few2 {a b:Value}:(#[a,b]:Array Value).size≤sizeLine:=by rw [sizeLine_eq]; simp
theorem few0:(#[]:Array Value).size≤sizeLine:=by rw [sizeLine_eq]; simp
set_option maxHeartbeats 1000000
section
variable {prog:Program} {w:World} {A:Around} {R:Result→Shared→Prop} {I l S:Addr} {items:Array Value} {val:Nat→Int} {dv:Value}
theorem maxD_loop (W:Walks prog w A.in1 I [I,l] [I] items.size (fun i v=>items[i]? = some v) (fun i h=>h.IsListIter I l i∧h.IsList l items)) (hv:∀ (i:Nat) (v:Value),items[i]? = some v→∃ t,v=Value.int (val i) t)
  (hSI:S≠I) (hSl:S≠l):∀ (k j:Nat) (s:Shared) (b:Value) (c:Nat),items.size - 1 - j=k→j < items.size→(s.heap.IsListIter I l (j + 1)∧s.heap.IsList l items) →
   items[argBest (fun i j=>decide (val i > val j)) j]? = some b→s.heap.get? S=some { cls:=.type "list",dict:=none,data:=.seq #[b,b] c,slots:=#[] } →
   (∀ v h' tk,items[argBest (fun i j=>decide (val i > val j)) (items.size - 1)]? = some v→(∀ x o,x≠I→x≠S→s.heap.get? x=some o→h'.get? x=some o)→R (.ok (.ret v)) { s with heap:=h',toks:=tk }) →
   codeAny (model prog w) A (.builtin "max.loop" ⟨[.ref I,.none,.ref S],[(Str.ofString "default",dv)]⟩) R s:=by
 have nm:(toString "max" ++ toString ".loop" : String) = "max.loop":=by decide
 intro k
 induction k with
 | zero =>
  intro j s b c hk hj st hb hS hR
  have e:j + 1=items.size:=by omega
  refine codeAny_builtin F.entry_max_loop ?_
  rw [Around.under_plainId F.plain_max_loop _]
  show wpAny _ A.in1 (seqItems? (.ref S) >>= _) _ _ s
  refine wpAny_bind (wpAny_seqItems hS rfl ?_)
  show wpAny _ A.in1 (tryCatch (pyNext (.ref I)) _ >>= _) _ _ s
  refine wpAny_bind (wpAny_tryCatch (W.done s _ _ (e ▸ st) fun h1 t1 k1=>?_))
  have hS1:=k1 S _ (by simpa using hSI) hS
  show wpAny _ A.in1 (updateSeq S (fun _=>#[]) >>= _) _ _ _
  refine wpAny_bind (wpAny_updateSeq hS1 rfl (hz:=few2) (_hz':=Nat.le_succ_of_le few0) (wpAny_bind (wpAny_letGo (wpAny_pure ?_))))
  have ej:items.size - 1=j:=by omega
  exact hR b _ t1 (by rw [ej]; exact hb) fun x o hx hxS q=>(Heap.get?_update_other _ _ (Ne.symm hxS)).trans (k1 x o (by simpa using hx) q)
 | succ k ih =>
  intro j s b c hk hj st hb hS hR
  have hlt:j + 1 < items.size:=by omega
  refine codeAny_builtin F.entry_max_loop ?_
  rw [Around.under_plainId F.plain_max_loop _]
  show wpAny _ A.in1 (seqItems? (.ref S) >>= _) _ _ s
  refine wpAny_bind (wpAny_seqItems hS rfl ?_)
  show wpAny _ A.in1 (tryCatch (pyNext (.ref I)) _ >>= _) _ _ s
  refine wpAny_bind (wpAny_tryCatch (W.item (j + 1) s _ _ hlt st fun v h1 t1 hP st1 k1=>?_))
  have hS1:=k1 S _ (by simpa using hSI) hS
  show wpAny _ A.in1 (tryCatch (holding [v,v] (richCompare .Gt v b >>= _)) _ >>= _) _ _ _
  refine wpAny_bind (wpAny_tryCatch (wpAny_holding (wpAny_bind (CmpOf.ints_gt val hv (j + 1) (argBest (fun i j=>decide (val i > val j)) j) v b _ _ _ hP hb ?_))))
  refine wpAny_bind (wpAny_holding (wpAny_truthy_bool ?_))
  refine wpAny_bind (wpAny_letGo (wpAny_pure ?_))
  by_cases ht:val (j + 1) > val (argBest (fun i j=>decide (val i > val j)) j)
  ·rw [if_pos (decide_eq_true ht)]
   refine wpAny_bind (wpAny_updateSeq (f:=fun _=>#[v,v]) hS1 rfl (hz:=few2) (_hz':=Nat.le_succ_of_le few2) (wpAny_bind (wpAny_letGo ?_)))
   rw [nm]
   refine wpAny_pure ⟨plainId_quiet F.plain_max_loop _,ih (j + 1) _ v _ (by omega) hlt (W.frame _ _ _ st1 fun x hx o q=>?_) (by simp only [argBest]; rw [if_pos (decide_eq_true ht)]; exact hP) (Heap.get?_update_self _ hS1 rfl) fun v2 h2 t2 hP2 k2=>?_⟩
   ·refine (Heap.get?_update_other _ _ fun z:S=x=>?_).trans q
    subst z
    rcases List.mem_cons.mp hx with z | z
    ·exact hSI z
    ·exact hSl (List.mem_singleton.mp z)
   ·exact hR v2 h2 t2 hP2 fun x o hx hxS q=>k2 x o hx hxS ((Heap.get?_update_other _ _ (Ne.symm hxS)).trans (k1 x o (by simpa using hx) q))
  ·rw [if_neg (fun z=>ht (of_decide_eq_true z))]
   refine wpAny_bind (wpAny_letGo ?_)
   rw [nm]
   refine wpAny_pure ⟨plainId_quiet F.plain_max_loop _,ih (j + 1) _ b c (by omega) hlt st1 (by simp only [argBest]; rw [if_neg (fun z=>ht (of_decide_eq_true z))]; exact hb) hS1 fun v2 h2 t2 hP2 k2=>?_⟩
   exact hR v2 h2 t2 hP2 fun x o hx hxS q=>k2 x o hx hxS (k1 x o (by simpa using hx) q)
end
section
variable {X:Cx}
theorem Xa0 (hc:X.calm=true) (pins:List (Addr×Obj)) (s:Shared) (σ:L2.St) (H:Hp) (p:Addr) (ns:List Int) (y:V) (dv:Value) (Q:VK) (I:Inv X pins σ H s) (hx:SqL X.K H p (ns.map V.int)) (ry:RelV y dv)
  (q:match ns with | []=>Q y H | n :: r=>Q (.int (r.foldl max n)) H):wpAny (model X.prog X.w) X.A (call (.builtin "max") [.ref p] [(Str.ofString "default",dv)]) (EP X pins σ Q) X.xe s:=by
 obtain ⟨its,rv,pl,hz⟩:=I.list hx
 obtain ⟨zs,e1,e2⟩:=Zg rv
 have hl:=pl.isList
 rw [e1] at hl
 have hlt:p < s.heap.objs.size:=by obtain ⟨o,n,e,_⟩:=pl; exact Heap.lt_size e
 have nm:(toString "max" ++ toString ".loop" : String) = "max.loop":=by decide
 have hs:zs.size=ns.length:=by rw [← e2]; simp
 have hsI:(intItems zs).size=ns.length:=by rw [← hs]; simp [intItems]
 refine wpAny_call (codeAny_call_builtin F.plain_max F.entry_max ?_)
 rw [kw_max]
 refine wpAny_pure ?_
 show wpAny _ X.A.in1 (Builtin.Builtins.bindParams "max" ["key","default"] 0 ⟨[],[(Str.ofString "default",dv)]⟩ >>= _) _ _ s
 refine wpAny_bind (wpAny_of_eq (show Builtin.Builtins.bindParams "max" ["key","default"] 0 ⟨[],[(Str.ofString "default",dv)]⟩=pure [none,some dv] from by kernel_rfl) ?_)
 refine wpAny_bind (wpAny_pure ?_)
 refine wpAny_bind (wpAny_pyIter_list hl ?_)
 refine wpAny_bind (wpAny_newObj_type ?_)
 rw [nm]
 have hsz:(s.heap.push { cls:=.type "list_iterator",data:=.fields #[.ref p,.int 0 0] }).objs.size=s.heap.objs.size + 1:=Heap.size_push ..
 have hSI:(s.heap.push { cls:=.type "list_iterator",data:=.fields #[.ref p,.int 0 0] }).objs.size≠s.heap.objs.size:=by rw [hsz]; exact Nat.succ_ne_self _
 have hSp:(s.heap.push { cls:=.type "list_iterator",data:=.fields #[.ref p,.int 0 0] }).objs.size≠p:=by rw [hsz]; exact Nat.ne_of_gt (Nat.lt_succ_of_lt hlt)
 have W:=Walks.list (prog:=X.prog) (w:=X.w) (A:=X.A.in1) (I.ok.hd hc) s.heap.objs.size p (Nat.ne_of_lt hlt) (intItems zs)
 generalize hS:(s.heap.push { cls:=.type "list_iterator",data:=.fields #[.ref p,.int 0 0] }).objs.size=S at hSI hSp ⊢
 have st0:((s.heap.push { cls:=.type "list_iterator",data:=.fields #[.ref p,.int 0 0] }).push { cls:=.type "list",dict:=none,data:=.seq ([]:List Value).toArray }).IsListIter s.heap.objs.size p 0∧((s.heap.push { cls:=.type "list_iterator",data:=.fields #[.ref p,.int 0 0] }).push { cls:=.type "list",dict:=none,data:=.seq ([]:List Value).toArray }).IsList p (intItems zs) :=
  ⟨⟨_,Heap.get?_push_of_some _ (Heap.get?_push_size _ rfl),rfl,rfl⟩,(hl.push _).push _⟩
 have hS0:((s.heap.push { cls:=.type "list_iterator",data:=.fields #[.ref p,.int 0 0] }).push { cls:=.type "list",dict:=none,data:=.seq ([]:List Value).toArray }).get? S=some { cls:=.type "list",dict:=none,data:=.seq #[] 0,slots:=#[] }:=by
  rw [← hS]; exact Heap.get?_push_size _ rfl
 have old:∀ {h':Heap},(∀ x o,x≠s.heap.objs.size→x≠S→((s.heap.push { cls:=.type "list_iterator",data:=.fields #[.ref p,.int 0 0] }).push { cls:=.type "list",dict:=none,data:=.seq ([]:List Value).toArray }).get? x=some o→h'.get? x=some o)→∀ x o,s.heap.get? x=some o→h'.get? x=some o:=fun {h'} k x o q=>by
  have hx:=Heap.lt_size q
  refine k x o (Nat.ne_of_lt hx) ?_ (Heap.get?_push_of_some _ (Heap.get?_push_of_some _ q))
  rw [← hS,hsz]
  exact Nat.ne_of_lt (Nat.lt_succ_of_lt hx)
 refine wpAny_pure ⟨plainId_quiet F.plain_max_loop _,?_⟩
 cases ns with
 | nil =>
  have e0:(intItems zs).size=0:=hsI
  refine codeAny_builtin F.entry_max_loop ?_
  rw [Around.under_plainId F.plain_max_loop _]
  show wpAny _ X.A.in1 (seqItems? (.ref S) >>= _) _ _ _
  refine wpAny_bind (wpAny_seqItems hS0 rfl ?_)
  show wpAny _ X.A.in1 (tryCatch (pyNext (.ref s.heap.objs.size)) _ >>= _) _ _ _
  refine wpAny_bind (wpAny_tryCatch (W.done _ _ _ (e0 ▸ st0) fun h1 t1 k1=>?_))
  refine wpAny_bind (wpAny_rule (wpAny_pure ?_))
  exact ⟨y,H,I.kept (old fun x o hx _ q=>k1 x o (by simpa using hx) q),ry,q⟩
 | cons n r =>
  have hv:∀ (i:Nat) (v:Value),(intItems zs)[i]? = some v→∃ t,v=Value.int (numAt zs i) t:=fun i v h=>intItems_at h
  refine codeAny_builtin F.entry_max_loop ?_
  rw [Around.under_plainId F.plain_max_loop _]
  show wpAny _ X.A.in1 (seqItems? (.ref S) >>= _) _ _ _
  refine wpAny_bind (wpAny_seqItems hS0 rfl ?_)
  show wpAny _ X.A.in1 (tryCatch (pyNext (.ref s.heap.objs.size)) _ >>= _) _ _ _
  refine wpAny_bind (wpAny_tryCatch (W.item 0 _ _ _ (by rw [hsI]; simp) st0 fun v h1 t1 hP st1 k1=>?_))
  have hS1:=k1 S _ (by simpa using hSI) hS0
  show wpAny _ X.A.in1 (updateSeq S (fun _=>#[v,v]) >>= _) _ _ _
  refine wpAny_bind (wpAny_updateSeq hS1 rfl (hz:=few0) (_hz':=Nat.le_succ_of_le few2) ?_)
  rw [nm]
  refine wpAny_pure ⟨plainId_quiet F.plain_max_loop _,maxD_loop (val:=numAt zs) W hv hSI hSp _ 0 _ v _ rfl (by rw [hsI]; simp) (W.frame _ _ _ st1 fun x hx o q=>?_) hP (Heap.get?_update_self _ hS1 rfl) fun v2 h2 t2 hP2 k2=>?_⟩
  ·refine (Heap.get?_update_other _ _ fun z:S=x=>?_).trans q
   subst z
   rcases List.mem_cons.mp hx with z | z
   ·exact hSI z
   ·exact hSp (List.mem_singleton.mp z)
  ·obtain ⟨t,rfl⟩:=hv _ _ hP2
   have ez:(intItems zs).size=zs.size:=by simp [intItems]
   refine ⟨.int _,H,I.kept (old fun x o hx hxS q=>k2 x o hx hxS ((Heap.get?_update_other _ _ (Ne.symm hxS)).trans (k1 x o (by simpa using hx) q))),⟨t,?_⟩,q⟩
   rw [ez,max_arg zs n r e2]
end
end DW
end
section
set_option autoImplicit false
set_option maxHeartbeats 2000000
namespace DW
open PySem PySem.W PySem.Spec PySem.Calls PyProof.Rows Builtin.Getset_descriptor
structure ExcCls (K:Frag) (C:Addr):Prop where
 ga:findIn K (.ref C) "__getattribute__" = some (some (.builtin "BaseException.__getattribute__"))
 hk:findIn K (.ref C) "__getattr__" = some none
 ex:mroIn K C (.type "BaseException")=some true
 ob:mroIn K C (.type "object")=some true
 ca:findIn K (.ref C) "__class__" = some (some (.builtin "object.__class__"))
 cg:specialIn K (.builtin "object.__class__") "__get__" = some (some (.builtin "getset_descriptor.__get__"))
 ct:takesIn K (.builtin "object.__class__")=some true
 cl:(clsIn K C).isSome=true
theorem ExcAt.ty {M:Model} {h:Heap} {x C:Addr} (p:ExcAt x C h):Looks M h (typeOf (.ref x)) (.ref C):=by
 obtain ⟨o,h1,h2⟩:=p
 exact h2 ▸ (Looks.ld h1).andThen .now
section
variable {prog:Program} {w:World} {A:Around} {E:Value→Shared→Prop} {s:Shared} {K:Frag} {x C:Addr} {name:Str}
end
end DW
end
section
set_option autoImplicit false
set_option maxHeartbeats 2000000
namespace DW
open PySem PySem.W PySem.Spec PyProof.Rows L2
structure Fly (outer:List Env) (H H':Hp) (h h':Heap) (B:Heap) (ea:Addr) (ob:Obj) (vs:Array Value) (P:Program) (w:World):Prop where
 un:Un (frs outer) [] H H' h h'
 hok:HOk P w H' h'
 fl:FlyX B outer ea ob vs .none h'
 ctx:vs[2]? = some .none
 old:∀ b o,h.get? b=some o→b ∉ frs outer→∃ o',B.get? b=some o'
 trk:∀ b u,H' b=some u→∃ o,B.get? b=some o
noncomputable def CXE (P:Program) (w:World):CXT:=fun outer H s E e s' =>
 ∃ (ea:Addr) (ob:Obj) (vs:Array Value) (B:Heap) (H':Hp),e = .ref ea∧s'.os=s.os∧AllBare s'.gens∧Fly outer H H' s.heap s'.heap B ea ob vs P w∧E ob.cls ob.dict H'
structure Leaves (X:Cx) (E:XK):Prop where
 stk:X.stack=X.env :: X.outer
 fr:X.env.frame=some X.env.locals
 ex:X.ex=[]
 xe:X.xe=fun e s'=>wpAny (model X.prog X.w) X.A (leaving X.env e) (fun _ s''=>CXE X.prog X.w X.outer X.H₀ X.s₀ E e s'') (fun e' s''=>CXE X.prog X.w X.outer X.H₀ X.s₀ E e' s'') s'
theorem leaves_cx {P:Program} {w:World} {K:Frag} {mg:Str→Option Value} {base:Heap} {N:List Str} {qual:Str} {scope:Scope} {f:Addr} {cd:Value} {A:Around} {outer:List Env} {s:Shared} {H:Hp} {E:XK} :
  Leaves (cxOf (CXE P w) P w K mg base N qual scope f cd A outer s H E) E:=⟨rfl,rfl,rfl,rfl⟩
theorem un_fly {fs:List Addr} {H0 H:Hp} {h0 h h' B:Heap} {fr:List Addr} (u:Un fs [] H0 H h0 h) (hB:∀ b o,(∃ o0,h0.get? b=some o0)→h.get? b=some o→b ∉ fr→B.get? b=some o) (st:B.StaysIn h')
  (up:∀ b∈fr,∀ o,h.get? b=some o→∃ sl,h'.get? b=some { o with slots:=sl }) (nl:∀ b o,h0.get? b=some o→b∈fr→b∈fs):Un fs [] H0 H h0 h' where
 keep:=fun b o q n hb hx=>by
  have e:=u.keep b o q n hb hx
  exact st b o (hB b o ⟨o,q⟩ e fun z=>hb (nl b o q z))
 slot:=fun b o q n hb hx=>by
  obtain ⟨sl,e⟩:=u.slot b o q n hb hx
  by_cases z:b∈fr
  ·obtain ⟨sl',e'⟩:=up b z _ e
   exact ⟨sl',e'⟩
  ·exact ⟨sl,st b _ (hB b _ ⟨o,q⟩ e z)⟩
 free:=u.free
 there:=fun b o q hx=>by
  obtain ⟨o',e⟩:=u.there b o q hx
  by_cases z:b∈fr
  ·obtain ⟨sl',e'⟩:=up b z _ e
   exact ⟨_,e'⟩
  ·exact ⟨o',st b _ (hB b _ ⟨o,q⟩ e z)⟩
 tups:=u.tups
 frzs:=u.frzs
 tbls:=u.tbls
theorem hok_fly {P:Program} {w:World} {H:Hp} {h h' B:Heap} (hok:HOk P w H h) (hB:∀ b u,H b=some u→∃ o,B.get? b=some o) (s1:B.StaysIn h) (st:B.StaysIn h'):HOk P w H h':=fun a o e=>by
 have k:∀ b v,H b≠none→h.get? b=some v→h'.get? b=some v:=fun b v hb hv=>by
  cases q:H b with
  | none=>exact absurd q hb
  | some u =>
   obtain ⟨o',e'⟩:=hB b u q
   have:=s1 b o' e'
   rw [hv] at this; cases this
   exact st b _ e'
 refine (hok a o e).stay (fun b u hb q=>k b u ?_ q) (fun _ q=>q) fun _ _ q=>q
 rcases hb with rfl | z
 ·rw [e]; simp
 ·rw [z]; simp
section
variable {X:Cx} {E E':XK} {pins:List (Addr×Obj)} {σ:L2.St} {H:Hp} {s s':Shared} {e:Value}
theorem fr_up {l:List Env} {base h h':Heap} (F:h.FunFrames base l) (up:h.UpToSlots h'):∀ b∈frs l,∀ o,h.get? b=some o→∃ sl,h'.get? b=some { o with slots:=sl }:=fun b hb o ho=>by
 obtain ⟨_,o',e',nf⟩:=F.mem hb
 rw [ho] at e'; cases e'
 exact up b o ho nf
theorem frs_eq (L:Leaves X E):frs X.stack=X.env.locals :: X.fs:=by rw [L.stk]; unfold frs; rw [List.filterMap_cons,L.fr]; rfl
theorem old_out (L:Leaves X E) (I:Inv X pins σ H s) {b:Addr} {o:Obj} (q:X.s₀.heap.get? b=some o) (z:b∈frs X.stack):b∈X.fs:=by
 rw [frs_eq L] at z
 rcases List.mem_cons.mp z with z | z
 ·exact absurd (Heap.lt_size q) (by rw [z]; exact Nat.not_lt.mpr I.ok.above)
 ·exact z
theorem fly_inv {H':Hp} {B:Heap} {ea:Addr} {ob:Obj} {vs:Array Value} (I:Inv X pins σ H s) (ho:s'.os=s.os) (hg:AllBare s'.gens) (F:Fly X.stack H H' s.heap s'.heap B ea ob vs X.prog X.w):Inv X pins σ H' s' :=
 I.call' (ch:=[]) ho F.un F.hok hg fun b z=>absurd z (by simp)
theorem call_xe (L:Leaves X E) (I:Inv X pins σ H s) (hE:∀ cls dx H',E' cls dx H'→E cls dx H') (h:CXE X.prog X.w X.stack H s E' e s'):X.xe e s':=by
 obtain ⟨ea,ob,vs,B,H',rfl,ho,hg,F,q⟩:=h
 have I':=fly_inv I ho hg F
 rw [L.xe]
 have hfr:X.A.frames=some (X.env :: X.outer):=by rw [I.ok.frames,L.stk]
 have fl:=F.fl
 have F0:s'.heap.FunFrames B X.stack:=fl.fun_
 rw [L.stk] at fl
 have hbase:Un X.fs [] X.H₀ H' X.s₀.heap s'.heap:=by have:=I'.base; rw [L.ex] at this; exact this
 have hbase0:Un X.fs [] X.H₀ H X.s₀.heap s.heap:=by have:=I.base; rw [L.ex] at this; exact this
 refine leave_on hfr L.fr fl fun h2 fl2 up=>?_
 have inB:∀ b,(∃ o0,X.s₀.heap.get? b=some o0)→b ∉ frs X.stack→∃ o',B.get? b=some o':=fun b ⟨o0,q0⟩ z=>by
  obtain ⟨o1,e1⟩:=hbase0.there b o0 q0 (by simp)
  exact F.old b o1 e1 z
 refine ⟨ea,ob,vs,B,H',rfl,I'.os,I'.bare,⟨?_,?_,fl2,F.ctx,?_,F.trk⟩,hE _ _ H' q⟩
 ·refine un_fly hbase (fun b o hb q0 z=>?_) fl2.stay (fr_up F0 up) fun b o q0 z=>old_out L I q0 z
  obtain ⟨o',e'⟩:=inB b hb z
  have:=fl.stay b o' e'
  rw [q0] at this; cases this
  exact e'
 ·exact hok_fly F.hok F.trk fl.stay fl2.stay
 ·intro b o q0 z
  exact inB b ⟨o,q0⟩ fun y=>z (old_out L I q0 y)
end
end DW
end
section
set_option autoImplicit false
set_option maxHeartbeats 2000000
namespace DW
open PySem PySem.W PySem.Spec PyProof.Rows L2
abbrev bmVE:List Value:=[.type "ValueError",.type "Exception",.type "BaseException",.type "object"]
section
variable {X:Cx} {E:XK} {x:Str} {C:Addr} {np cpos pos:Pos} {args:List Expr} {t:TA}
end
noncomputable def Meets (X:Cx) (EX:L2.St→XK):Prop:=∀ (pins:List (Addr×Obj)) (σ:L2.St) (H:Hp) (s:Shared) (E':XK) (e:Value) (s':Shared),Inv X pins σ H s→(∀ cls dx H',E' cls dx H'→EX σ cls dx H')→CXE X.prog X.w X.stack H s E' e s'→X.xe e s'
theorem meets_of {X:Cx} {E:XK} (L:Leaves X E):Meets X fun _=>E:=fun pins σ H s E' e s' I hE h=>call_xe L I hE h
section
variable {X:Cx} {EX:L2.St→XK} {k:Nat} {f C:Addr} {fd:FuncData} {ps:List Str} {sp:Sp} {x m:Str} {p pos apos:Pos} {e o:Expr} {es:List Expr} {ta:TE} {t:TA}
end
end DW
end
section
set_option autoImplicit false
set_option maxHeartbeats 2000000
namespace DW
open PySem PySem.W PySem.Spec PyProof.Rows L2
section
variable {X:Cx} {pins:List (Addr×Obj)} {σ:L2.St} {H H':Hp} {s s':Shared} {ea:Addr} {oe:Obj}
end
section
variable {X:Cx} {pins pn:List (Addr×Obj)} {σ:L2.St} {H:Hp} {s:Shared} {ξ:Value→Shared→Prop}
end
section
variable {X:Cx} {i:Nat} {n P:Str} {np hpos pos:Pos} {b₀:Stmt} {suite body:List Stmt} {CP:Addr} {tb:(L2.St→XK)→TS} {th:TS}
noncomputable def takes (X:Cx) (CP:Addr) (i:Nat) (th:TS) (D:Ends):L2.St→XK:=fun σ' cls dx H'=>∃ C,cls = .ref C∧exmOne X.K (.ref C) (.ref CP)=some true ∧
 ∀ ea oe u,H' ea=none→oe.cls = .ref C→PySem.W.notCls oe=true→oe.dict=dx→th { nx:=fun _ _=>False,rt:=D.rt } (σ'.set i (some (.ref ea))) (upd H' ea (.frz oe u))
end
end DW
end
section
set_option autoImplicit false
set_option maxHeartbeats 2000000
namespace DW
open PySem PySem.W PySem.Spec PyProof.Rows L2 Builtin.ObjectAttr
noncomputable def excLine:List Value→Bool
 | .ref _ :: r=>excLine r
 | l=>l == bmVE
noncomputable def excOver (K:Frag) (C:Addr):Bool:=(clsIn K C).any fun cd=>excLine cd.mro && !cd.mro.isEmpty
section
variable {prog:Program} {w:World} {A:Around} {E:Value→Shared→Prop} {s:Shared} {K:Frag} {x C:Addr} {R:Result→Shared→Prop}
end
end DW
end
section
set_option autoImplicit false
set_option maxHeartbeats 2000000
namespace DW
open PySem PySem.W PySem.Spec PyProof.Rows L2
section
variable {prog:Program} {w:World} {A:Around} {E:Value→Shared→Prop} {h:Heap} {g:Array GenState} {d:Drawn} {t:Nat} {os:OsState}
variable {nm q:Str} {C N:Addr} {bs bm bmB:List Value} {hdct:Bool} {sn:List Str} {sub:List Value} {ab:Bool} {col:Option Bool} {dd:Option Addr} {k0 k1 k2 k3 k5:Option Value} {B newId initId:String}
end
section
variable {prog:Program} {w:World} {A:Around} {E:Value→Shared→Prop} {s:Shared} {env:Env}
variable {nm q:Str} {C N:Addr} {bs bm bmB:List Value} {hdct:Bool} {sn:List Str} {sub:List Value} {ab:Bool} {col:Option Bool} {dd:Option Addr} {k0 k1 k2 k3 k5:Option Value} {B newId initId:String}
end
end DW
end
section
set_option autoImplicit false
set_option maxHeartbeats 2000000
namespace DW
open PySem PySem.W PySem.Spec PyProof.Rows L2
noncomputable abbrev errObj (C t:Addr) (d:Option Addr):Obj:={ cls:=.ref C,dict:=d,data:=.fields #[.ref t,.none,.none,.none,.bool false,.none] }
noncomputable def ErrO (a C:Addr) (d:Option Addr):HO:=.ext fun h=>∃ t,h.get? a=some (errObj C t d)
section
variable {P:Program} {w:World} {H:Hp} {h h':Heap} {a C t:Addr} {d:Option Addr} {o:HO} {fs:List (Str×V)} {mA:Str→Option Value}
noncomputable def drop (H:Hp) (a:Addr):Hp:=fun b=>if b=a then none else H b
end
structure ErrC (K:Frag) (C:Addr):Prop where
 ov:excOver K C=true
 ob:mroIn K C (.type "object")=some true
 hd:hasDictIn K C=true
 sa:findIn K (.ref C) "__setattr__" = some (some (.builtin "object.__setattr__"))
section
variable {X:Cx} {pins:List (Addr×Obj)} {σ:L2.St} {H:Hp} {s:Shared} {a C dx:Addr} {fs:List (Str×V)} {f:Str} {E:Value→Shared→Prop}
theorem ErrC.has (c:ErrC X.K C):(clsIn X.K C).any (·.hasDict)=true:=c.hd
end
def spI (K:Frag) (xs:List Str):Sp:=fun vs H Q E=>∃ a C ys,vs = .ref a :: ys∧ys.length=xs.length∧H a=some (ErrO a C none)∧ErrC K C∧(∀ x∈xs,Ya3 K C x) ∧
 ∀ dx,H dx=none→dx≠a→Q .non (upd (upd H dx (DcO dx (xs.zip ys))) a (ErrO a C (some dx)))
noncomputable def excInI (K:Frag) (C:Addr) (bmB:List Value) (newId:String) (fa:Addr):Bool:=match K.lookup C with
 | some ⟨.type "type",_,.cls cd,sl⟩=>(match cd.mro,sl.toList with
  | .ref C' :: bm,[_,_,_,_,some (.builtin n),_]=>C' == C && n == newId && !cd.hasDel && tailIn K bmB bm && nsOkIn K cd.ns && nsIn K cd.ns "__init__" == some (some (.ref fa))
  | _,_=>false)
 | _=>false
section
variable {X:Cx} {E:XK} {x:Str} {C fa:Addr} {np cpos pos:Pos} {args:List Expr} {t:TA} {k:Nat} {fd:FuncData} {sf:Str} {xs:List Str}
end
end DW
end
section
set_option autoImplicit false
set_option maxHeartbeats 2000000
namespace DW
open PySem PySem.Spec PyProof.Rows L2
noncomputable def low (K:PySem.W.Frag) (sp:DSp):Sp:=fun vs H Q _=>∃ ds θ μ Qd,WOk K H θ μ∧Rps K H θ μ ds vs∧sp ds μ Qd∧Fin K H θ μ Qd Q
noncomputable def FinX (K:PySem.W.Frag) (H:Hp) (θ:List Addr) (μ:Mem) (Xd:QX) (E:XK):Prop:=∀ (H':Hp) (θ':List Addr) (μ':Mem) (c:String) (ks:List String) (ds:List D),WOk K H' θ' μ'→Grow H θ μ H' θ' μ'→Xd c ks ds μ'→XLand K E H' θ' μ' c ks ds
noncomputable def lowX (K:PySem.W.Frag) (sp:DSpX):Sp:=fun vs H Q E=>∃ ds θ μ Qd Xd,WOk K H θ μ∧Rps K H θ μ ds vs∧sp ds μ Qd Xd∧Fin K H θ μ Qd Q∧FinX K H θ μ Xd E
theorem passE {X:Cx}:Passes (CXE X.prog X.w) X E0:=fun _ _ _ _ _ _ _ h=>by
 obtain ⟨_,_,_,_,_,_,_,_,_,q⟩:=h
 exact q.elim
noncomputable def ClsVal (mg:Str→Option Value) (t:String) (v:V):Prop :=
 (∃ C,v = .ref C∧mg (Str.ofString t)=some (.ref C))∨(v = .ty t∧mg (Str.ofString t)=none∧bootBuiltins (Str.ofString t)=some (.type t)∧Str.ofString t≠"__name__")
noncomputable def Zbb (mg:Str→Option Value):List String→List V→Prop
 | [],[]=>True
 | t :: ts,v :: vs=>ClsVal mg t v∧Zbb mg ts vs
 | _,_=>False
noncomputable def clsU:V→Value
 | .ref a=>.ref a
 | .ty n=>.type n
 | _=>.none
noncomputable def IsxAt (K:PySem.W.Frag) (mg:Str→Option Value) (tt:Bool) (ts:List String) (tab:List (String×Bool)):Prop:=∃ vs,Zbb mg ts vs∧∀ p∈tab,∃ C,PySem.W.nsIn K mainGlobals (Str.ofString p.1)=some (some (.ref C))∧ExcCls K C ∧
 (if tt=true then PySem.W.kitAny K (.ref C) (vs.map clsU)=some p.2 else ∃ v,vs=[v]∧PySem.W.kitOne K (.ref C) (clsU v)=some p.2)
noncomputable def HdlAt (K:PySem.W.Frag) (mg:Str→Option Value) (P:String) (tab:List String):Prop:=∃ CP,mg (Str.ofString P)=some (.ref CP)∧∀ c∈tab,∃ C,PySem.W.nsIn K mainGlobals (Str.ofString c)=some (some (.ref C))∧PySem.W.exmOne K (.ref C) (.ref CP)=some true
noncomputable def RseAt (K:PySem.W.Frag) (mg:Str→Option Value) (c:String):Prop:=∃ C,PySem.W.nsIn K mainGlobals (Str.ofString c)=some (some (.ref C))∧mg (Str.ofString c)=some (.ref C)∧PySem.W.excIn K C bmVE "ValueError.__new__" = true
noncomputable def IniAt (P:Program) (w:World) (K:PySem.W.Frag) (mg:Str→Option Value) (base:Heap) (c:String) (ks:List String):Prop:=∃ (C fa:Addr) (fd:FuncData) (sf:Str),PySem.W.nsIn K mainGlobals (Str.ofString c)=some (some (.ref C))∧mg (Str.ofString c)=some (.ref C) ∧
 excInI K C bmVE "ValueError.__new__" fa=true∧PySem.W.isFn K (.ref fa)=true∧ErrC K C∧(∀ y∈ks.map (fun k=>Str.ofString k),Ya3 K C y)∧Binds K fd (sf :: ks.map (fun k=>Str.ofString k)) []∧ks≠[]∧ks.length≤9 ∧
 FnOk P w K mg base (CXE P w) 1 fa fd (sf :: ks.map (fun k=>Str.ofString k)) (spI K (ks.map (fun k=>Str.ofString k)))
noncomputable def EflAt (K:PySem.W.Frag) (f:String) (tab:List String):Prop:=∀ c∈tab,∃ C,PySem.W.nsIn K mainGlobals (Str.ofString c)=some (some (.ref C))∧ExcCls K C∧Ya3 K C (Str.ofString f)∧PySem.W.hasDictIn K C=true
noncomputable def Y4 (X:Cx):Rf→DSp→Prop
 | .fn x,sp=>∃ (fa:Addr) (fd:FuncData) (ps:List Str) (k:Nat),X.mg x=some (.ref fa)∧PySem.W.keepIn X.K (.ref fa)=true∧Binds X.K fd ps []∧FnOk X.prog X.w X.K X.mg X.base (CXE X.prog X.w) k fa fd ps (low X.K sp)∧Room k X.A
 | .mth c m,sp=>∃ (C fa:Addr) (fd:FuncData) (ps:List Str) (k:Nat),PySem.W.nsIn X.K mainGlobals (Str.ofString c)=some (some (.ref C))∧Cls X.K C∧Meth X.K C (Str.ofString m) fa∧Binds X.K fd ps []∧FnOk X.prog X.w X.K X.mg X.base (CXE X.prog X.w) k fa fd ps (low X.K sp)∧Room k X.A
 | .mk c,sp=>∃ (C fa:Addr) (fd:FuncData) (ps:List Str) (k:Nat),PySem.W.nsIn X.K mainGlobals (Str.ofString c)=some (some (.ref C))∧X.mg (Str.ofString c)=some (.ref C)∧Mk X.K C fa∧Binds X.K fd ps []∧FnOk X.prog X.w X.K X.mg X.base (CXE X.prog X.w) k fa fd ps (low X.K sp)∧Room (k + 1) X.A
 | .fld c f,_=>∃ C:Addr,PySem.W.nsIn X.K mainGlobals (Str.ofString c)=some (some (.ref C))∧Cls X.K C∧Ya3 X.K C (Str.ofString f)
 | .fnX x sp,_=>∃ (fa:Addr) (fd:FuncData) (ps:List Str) (k:Nat),X.mg x=some (.ref fa)∧PySem.W.keepIn X.K (.ref fa)=true∧Binds X.K fd ps []∧FnOk X.prog X.w X.K X.mg X.base (CXE X.prog X.w) k fa fd ps (lowX X.K sp)∧Room k X.A
 | .mthX c m sp,_=>∃ (C fa:Addr) (fd:FuncData) (ps:List Str) (k:Nat),PySem.W.nsIn X.K mainGlobals (Str.ofString c)=some (some (.ref C))∧Cls X.K C∧Meth X.K C (Str.ofString m) fa∧Binds X.K fd ps []∧FnOk X.prog X.w X.K X.mg X.base (CXE X.prog X.w) k fa fd ps (lowX X.K sp)∧Room k X.A
 | .mkX c sp,_=>∃ (C fa:Addr) (fd:FuncData) (ps:List Str) (k:Nat),PySem.W.nsIn X.K mainGlobals (Str.ofString c)=some (some (.ref C))∧X.mg (Str.ofString c)=some (.ref C)∧Mk X.K C fa∧Binds X.K fd ps []∧FnOk X.prog X.w X.K X.mg X.base (CXE X.prog X.w) k fa fd ps (lowX X.K sp)∧Room (k + 1) X.A
 | .rse c,_=>RseAt X.K X.mg c
 | .fnM x,sp=>∃ (fa:Addr) (fd:FuncData) (ps:List Str),X.mg x=some (.ref fa)∧PySem.W.keepIn X.K (.ref fa)=true∧Binds X.K fd ps []∧FnOk X.prog X.w X.K X.mg X.base (CXE X.prog X.w) 15 fa fd ps (low X.K sp)∧Room 15 X.A
 | .rsi c ks,_=>IniAt X.prog X.w X.K X.mg X.base c ks∧Room 2 X.A
 | .efl f tab,_=>EflAt X.K f tab
 | .hdl P tab,_=>HdlAt X.K X.mg P tab
 | .isx tt ts tab,_=>IsxAt X.K X.mg tt ts tab
noncomputable def Ws (X:Cx) (x:Str) (d:D):Prop:=∃ (u:Value) (v:V),X.mg x=some u∧RelV v u∧∀ H θ μ,Rp X.K H θ μ d v
structure CtxOk (X:Cx) (c:Ctx):Prop where
 N:X.N=c.N
 nd:c.N.Nodup
 vis:∀ x,c.vis x=true→Vis X.env.scope x
 loc:∀ x,c.loc x=true→Loc X.env.scope x∧(X.fn x=true∨X.env.scope.names.lookup x=some .local)
 isl:∀ x,isLocal c x=true→X.env.scope.names.lookup x=some .local
 glb:∀ x,c.glb x=true→Gl X x
 clo:∀ x,(c.names.lookup x=some .cell∨c.names.lookup x=some .free)→(X.env.kindOf x=some .cell∨X.env.kindOf x=some .free)
 blt:∀ x,c.blts.contains x=true→X.mg x=none
 calm:c.calm=true→X.calm=true
 room:∃ k,Room k X.A
 pas:PassesOwn (model X.prog X.w) X.A X.env X.xe
theorem Yap {c:Ctx} {i:Nat} {x:Str} (h:c.at_ i x=true):c.N[i]? = some x:=by
 unfold Ctx.at_ at h
 split at h
 ·rename_i y e; rw [e,of_decide_eq_true h]
 ·cases h
theorem Xg {e:Expr} {es:List Expr} {env:Env} (h:notStar e=true):starEach (e :: es) env=(false,eval e env) :: starEach es env:=by
 cases e <;> first | rfl | exact (Bool.false_ne_true h).elim
theorem Zr {c:Ctx} {pos:Pos} {env:Env}:∀ {es:Es} {as:List Expr},mEs c es as=true→(backTo pos (starEach as env)).any (·.1)=false
 | .nil,as,h=>by
  have:as=[]:=by simpa [mEs] using h
  subst this; rfl
 | .cons e es,as,h=>by
  cases as with
  | nil=>simp [mEs] at h
  | cons a as =>
   simp only [mEs,Bool.and_eq_true] at h
   rw [Xg h.1.2]
   show (false || (backTo pos (starEach as env)).any (·.1))=false
   rw [Zr h.2]; rfl
theorem esLen_eq {c:Ctx}:∀ {es:Es} {as:List Expr},mEs c es as=true→Wz es=as.length
 | .nil,as,h=>by
  have:as=[]:=by simpa [mEs] using h
  subst this; rfl
 | .cons e es,as,h=>by
  cases as with
  | nil=>simp [mEs] at h
  | cons a as =>
   simp only [mEs,Bool.and_eq_true] at h
   simp [Wz,esLen_eq h.2]
theorem Vy {x:Str} (h:Zz x=false):(x == ("__debug__" : Str))=false∧(x == ("__classdict__" : Str))=false:=by
 unfold Zz at h
 exact Bool.or_eq_false_iff.mp h
theorem Yau {op:CmpOp} {e:Expr} (h:Xl e=true):behindInMarks op e=false:=by
 cases e <;> first | rfl | exact (Bool.false_ne_true h).elim
theorem Xab {e:Expr} {env:Env} (h:Xl e=true):∀ v,foldedSetIterable e env v=pure v:=by
 intro v
 cases e <;> first | rfl | exact (Bool.false_ne_true h).elim
theorem plainIx_of {e:Expr} (h:Vg e=true):PlainIx e:=by
 intro o i
 cases e <;> first | rfl | exact (Bool.false_ne_true h).elim
theorem Vai {e:Expr} {t:Option Expr} {n:Nat} {env:Env} (h:Yh e=true):swapsWith e t n env=pure false:=by
 cases e <;> first | rfl | exact (Bool.false_ne_true h).elim
structure Snd (X:Cx) (e:E) (a:Expr):Prop where
 pe:PE X a (LE X.K (wE e))
 pt:PT X a (LT X.K (wT e))
 pw:∀ op vs pos,a = .BoolOp op vs pos→PW X a (LT X.K (wT e))
section
variable {X:Cx}
theorem Vc {a:Expr}:PT X a (LT X.K fun _ _ _=>False):=fun pins s σ H Q I h=>by obtain ⟨_,_,_,_,_,h,_⟩:=h; exact h.elim
theorem lt_bl {t:TE} {w:WE} {σ:L2.St} {H:Hp} {Q:Bool→Hp→Prop} (ht:∀ σ H Q,LE X.K w σ H Q→t σ H Q) (h:LT X.K (fun ρ μ Q=>w ρ μ fun r μ1=>wBl r μ1 Q) σ H Q):tTest t σ H Q:=by
 obtain ⟨ρ,θ,μ,Qd,s,h,f⟩:=h
 refine ht σ H _ ⟨ρ,θ,μ,_,s,h,fun r v H1 θ1 μ1 w1 g1 r1 h1=>?_⟩
 cases r with
 | bl b=>exact ⟨b,Zi r1,f b H1 θ1 μ1 w1 g1 h1⟩
 | _=>exact h1.elim
theorem le_chain {p q:CmpOp} {wa wb wc:WE} {σ:L2.St} {H:Hp} {Q:VK}
  (h:LE X.K (fun ρ μ Q=>wa ρ μ fun x μ1=>wb ρ μ1 fun y μ2=>wCmp p x y μ2 fun r μ3=>wBl r μ3 fun t μ3=>if t=true then wc ρ μ3 fun z μ4=>wCmp q y z μ4 Q else Q (.bl false) μ3) σ H Q) :
  Vbd (low2 X.K (wCmp p)) (low2 X.K (wCmp q)) (LE X.K wa) (LE X.K wb) (LE X.K wc) σ H Q:=by
 obtain ⟨ρ,θ,μ,Qd,s,h,f⟩:=h
 refine ⟨ρ,θ,μ,_,s,h,fun x v H1 θ1 μ1 w1 g1 r1 h1=>⟨ρ,θ1,μ1,_,s.grow w1 g1,h1,fun y v2 H2 θ2 μ2 w2 g2 r2 h2=>⟨x,y,θ2,μ2,_,w2,g2.rep r1,r2,h2,fun r v3 H3 θ3 μ3 w3 g3 r3 h3=>?_⟩⟩⟩
 cases r with
 | bl b =>
  refine ⟨b,Zi r3,?_⟩
  have g13:=(g1.trans g2).trans g3
  cases b with
  | true =>
   exact ⟨ρ,θ3,μ3,_,s.grow w3 g13,h3,fun z v4 H4 θ4 μ4 w4 g4 r4 h4=>⟨y,z,θ4,μ4,Qd,w4,(g3.trans g4).rep r2,r4,h4,f.mono (g13.trans g4)⟩⟩
  | false=>exact (f.mono g13).at w3 Wn h3
 | _=>exact h3.elim
theorem le_and {wa wb:WE} {σ:L2.St} {H:Hp} {Q:VK} (h:LE X.K (fun ρ μ Q=>wa ρ μ fun x μ1=>wBl x μ1 fun t μ2=>if t=true then wb ρ μ2 Q else Q (.bl false) μ2) σ H Q):tAndV (LE X.K wa) (LE X.K wb) σ H Q:=by
 obtain ⟨ρ,θ,μ,Qd,s,h,f⟩:=h
 refine ⟨ρ,θ,μ,_,s,h,fun x v H1 θ1 μ1 w1 g1 r1 h1=>?_⟩
 cases x with
 | bl b =>
  refine ⟨b,Zi r1,?_⟩
  cases b with
  | true=>exact ⟨ρ,θ1,μ1,Qd,s.grow w1 g1,h1,f.mono g1⟩
  | false=>exact (f.mono g1).at w1 Wn h1
 | _=>exact h1.elim
theorem le_or {wa wb:WE} {σ:L2.St} {H:Hp} {Q:VK} (h:LE X.K (fun ρ μ Q=>wa ρ μ fun x μ1=>wBl x μ1 fun t μ2=>if t=true then Q (.bl true) μ2 else wb ρ μ2 Q) σ H Q):tOrV (LE X.K wa) (LE X.K wb) σ H Q:=by
 obtain ⟨ρ,θ,μ,Qd,s,h,f⟩:=h
 refine ⟨ρ,θ,μ,_,s,h,fun x v H1 θ1 μ1 w1 g1 r1 h1=>?_⟩
 cases x with
 | bl b =>
  refine ⟨b,Zi r1,?_⟩
  cases b with
  | false=>exact ⟨ρ,θ1,μ1,Qd,s.grow w1 g1,h1,f.mono g1⟩
  | true=>exact (f.mono g1).at w1 Wn h1
 | _=>exact h1.elim
theorem lt_and {wa wb:WT} {σ:L2.St} {H:Hp} {Q:Bool→Hp→Prop} (h:LT X.K (fun ρ μ Q=>wa ρ μ fun t μ1=>if t=true then wb ρ μ1 Q else Q false μ1) σ H Q):tAnd (LT X.K wa) (LT X.K wb) σ H Q:=by
 obtain ⟨ρ,θ,μ,Qd,s,h,f⟩:=h
 refine ⟨ρ,θ,μ,_,s,h,fun b H1 θ1 μ1 w1 g1 h1=>?_⟩
 cases b with
 | true=>exact ⟨ρ,θ1,μ1,Qd,s.grow w1 g1,h1,fun b H2 θ2 μ2 w2 g2 q=>f b H2 θ2 μ2 w2 (g1.trans g2) q⟩
 | false=>exact f false H1 θ1 μ1 w1 g1 h1
theorem lt_or {wa wb:WT} {σ:L2.St} {H:Hp} {Q:Bool→Hp→Prop} (h:LT X.K (fun ρ μ Q=>wa ρ μ fun t μ1=>if t=true then Q true μ1 else wb ρ μ1 Q) σ H Q):tOr (LT X.K wa) (LT X.K wb) σ H Q:=by
 obtain ⟨ρ,θ,μ,Qd,s,h,f⟩:=h
 refine ⟨ρ,θ,μ,_,s,h,fun b H1 θ1 μ1 w1 g1 h1=>?_⟩
 cases b with
 | false=>exact ⟨ρ,θ1,μ1,Qd,s.grow w1 g1,h1,fun b H2 θ2 μ2 w2 g2 q=>f b H2 θ2 μ2 w2 (g1.trans g2) q⟩
 | true=>exact f true H1 θ1 μ1 w1 g1 h1
theorem inv_frzd {pins:List (Addr×Obj)} {σ:L2.St} {H:Hp} {s:Shared} {a:Addr} {kvs:List (Key×V)} (I:Inv X pins σ H s) (e:H a=some (.dK kvs)):∃ o,Inv X pins σ (upd H a (.frz o (.dK kvs))) s:=by
 have ok:ObjOk X.prog X.w H s.heap a (.dK kvs):=I.hok a _ e
 obtain ⟨hz,hs,vs,rel,o,es,ep,q1,q2⟩:=id ok
 refine ⟨o,?_⟩
 have ne:∀ {b:Addr} {u:HO},H b=some u→(∀ k,u≠.dK k)→b≠a:=fun {b u} h1 h2 z=>by subst z; rw [e] at h1; cases h1; exact h2 _ rfl
 have nn:∀ {b:Addr},H b=none→b≠a:=fun {b} h1 z=>by subst z; rw [e] at h1; cases h1
 refine ⟨I.ok,I.os,I.bare,⟨I.base.keep,I.base.slot,fun b ob q n hx=>?_,I.base.there,fun b xs q=>?_,fun b ob u q=>?_,fun b ps q=>?_⟩,I.loc,I.cell,?_,fun x c e=>?_,fun p hpp=>?_,fun b u e1=>?_,I.len,I.hh.mono fun b o u q=>by rw [Va (ne q (by simp))]; exact q⟩
 ·have:=I.base.free b ob q n hx
  rw [Va (nn this)]; exact this
 ·have:=I.base.tups b xs q
  rw [Va (ne this (by simp))]; exact this
 ·have:=I.base.frzs b ob u q
  rw [Va (ne this (by simp))]; exact this
 ·obtain ⟨more,this⟩:=I.base.tbls b ps q
  exact ⟨more,by rw [Va (ne this (by simp))]; exact this⟩
 ·rw [Va (nn I.free)]; exact I.free
 ·rw [Va (nn (I.freeC x c e))]; exact I.freeC x c e
 ·obtain ⟨q1,q2,q3,q4,q5⟩:=I.pin p hpp
  exact ⟨q1,by rw [Va (nn q2)]; exact q2,q3,q4,q5⟩
 ·have st:∀ {b:Addr} {u:HO},ObjOk X.prog X.w H s.heap b u→ObjOk X.prog X.w (upd H a (.frz o (.dK kvs))) s.heap b u:=fun {b u} h=>h.stay (fun _ _ _ q=>q) (fun c q=>by rw [Va (ne q (by simp))]; exact q) fun c xs q=>by rw [Va (ne q (by simp))]; exact q
  by_cases hb:b=a
  ·subst hb
   rw [Wb] at e1; cases e1
   exact ⟨q1,st ok⟩
  ·rw [Va hb] at e1
   exact st (I.hok b u e1)
theorem inv_frzt {pins:List (Addr×Obj)} {σ:L2.St} {H:Hp} {s:Shared} {a:Addr} {kvs:List (List Key×V)} (I:Inv X pins σ H s) (e:H a=some (.dT kvs)):∃ o,Inv X pins σ (upd H a (.frz o (.dT kvs))) s:=by
 have ok:ObjOk X.prog X.w H s.heap a (.dT kvs):=I.hok a _ e
 obtain ⟨hz,hs,xs,rel,o,es,ep,q1,q2⟩:=id ok
 refine ⟨o,?_⟩
 have ne:∀ {b:Addr} {u:HO},H b=some u→(∀ k,u≠.dT k)→b≠a:=fun {b u} h1 h2 z=>by subst z; rw [e] at h1; cases h1; exact h2 _ rfl
 have nn:∀ {b:Addr},H b=none→b≠a:=fun {b} h1 z=>by subst z; rw [e] at h1; cases h1
 refine ⟨I.ok,I.os,I.bare,⟨I.base.keep,I.base.slot,fun b ob q n hx=>?_,I.base.there,fun b xs q=>?_,fun b ob u q=>?_,fun b ps q=>?_⟩,I.loc,I.cell,?_,fun x c e=>?_,fun p hpp=>?_,fun b u e1=>?_,I.len,I.hh.mono fun b o u q=>by rw [Va (ne q (by simp))]; exact q⟩
 ·have:=I.base.free b ob q n hx
  rw [Va (nn this)]; exact this
 ·have:=I.base.tups b xs q
  rw [Va (ne this (by simp))]; exact this
 ·have:=I.base.frzs b ob u q
  rw [Va (ne this (by simp))]; exact this
 ·obtain ⟨more,this⟩:=I.base.tbls b ps q
  exact ⟨more,by rw [Va (ne this (by simp))]; exact this⟩
 ·rw [Va (nn I.free)]; exact I.free
 ·rw [Va (nn (I.freeC x c e))]; exact I.freeC x c e
 ·obtain ⟨q1,q2,q3,q4,q5⟩:=I.pin p hpp
  exact ⟨q1,by rw [Va (nn q2)]; exact q2,q3,q4,q5⟩
 ·have st:∀ {b:Addr} {u:HO},ObjOk X.prog X.w H s.heap b u→ObjOk X.prog X.w (upd H a (.frz o (.dT kvs))) s.heap b u:=fun {b u} h=>h.stay (fun _ _ _ q=>q) (fun c q=>by rw [Va (ne q (by simp))]; exact q) fun c xs q=>by rw [Va (ne q (by simp))]; exact q
  by_cases hb:b=a
  ·subst hb
   rw [Wb] at e1; cases e1
   exact ⟨q1,st ok⟩
  ·rw [Va hb] at e1
   exact st (I.hok b u e1)
theorem Grow.frzd {K:PySem.W.Frag} {H:Hp} {θ:List Addr} {μ:Mem} {n:Nat} {a:Addr} {c:Cell} {o:HO} (w:WOk K H θ μ) (hn:μ[n]? = some c) (hc:c≠.gone) (ha:θ[n]? = some a):Grow H θ μ (upd H a o) θ (μ.set n .gone) where
 pre:=fun _ _ h=>h
 keep:=fun b u h k=>by
  have:b≠a:=by rintro rfl; exact k ⟨n,c,ha,hn,hc⟩
  exact ⟨by rw [Va this]; exact h,((Grow.frz (H:=H) (θ:=θ) (μ:=μ) (n:=n)).keep b u h k).2⟩
theorem WOk.frzd {K:PySem.W.Frag} {H:Hp} {θ:List Addr} {μ:Mem} {n:Nat} {a:Addr} {c:Cell} {o:HO} (w:WOk K H θ μ) (hn:μ[n]? = some c) (hc:c≠.gone) (ha:θ[n]? = some a):WOk K (upd H a o) θ (μ.set n .gone) where
 len:=by simp [w.len]
 inj:=w.inj
 bnd:=fun m b h k=>by
  unfold upd at k
  split at k
  ·cases k
  ·exact w.bnd m b h k
 cell:=fun m c1 b h k=>by
  by_cases q:m=n
  ·subst q
   rw [List.getElem?_set_self (List.getElem?_eq_some_iff.mp hn).1] at h
   cases h
   trivial
  ·rw [List.getElem?_set_ne (Ne.symm q)] at h
   have hb:b≠a:=fun z=>q (w.inj m n b k (by rw [z]; exact ha))
   exact (w.cell m c1 b h k).mono (Grow.frzd w hn hc ha) fun u e=>by rw [Va hb]; exact e
theorem pe_frzD {a:Expr} {wa:WE} (h:PE X a (LE X.K wa)):PE X a (LE X.K fun ρ μ Q=>wa ρ μ fun d μ1=>wFrz d μ1 Q):=fun pins s0 σ H Q I q=>by
 obtain ⟨ρ,θ,μ,Qd,s,hw,f⟩:=q
 refine thn (h pins s0 σ H (fun x H1=>∃ d θ1 μ1,WOk X.K H1 θ1 μ1∧Grow H θ μ H1 θ1 μ1∧Rp X.K H1 θ1 μ1 d x∧wFrz d μ1 Qd) I ⟨ρ,θ,μ,_,s,hw,fun d v H1 θ1 μ1 w1 g1 r1 h1=>⟨d,θ1,μ1,w1,g1,r1,h1⟩⟩) fun vv s1 ⟨v,H1,I1,rv,d,θ1,μ1,w1,g1,r1,h1⟩=>?_
 have f1:=f.mono g1
 cases d with
 | loc n =>
  simp only [wFrz] at h1
  split at h1
  ·rename_i ds hn
   obtain ⟨a,rfl,ha⟩:=Zc r1
   obtain ⟨xs,hx,rs⟩:=w1.list hn ha
   refine ⟨.ref a,H1,I1,rv,f1 (.lst ds) (.ref a) H1 θ1 (μ1.set n .gone) w1.frz Grow.frz ?_ h1⟩
   unfold Rep
   exact ⟨a,xs,rfl,hx,V1 w1 ha,Grow.frz.reps rs⟩
  ·rename_i ks ds hn
   obtain ⟨a,rfl,ha⟩:=Zc r1
   obtain ⟨kvs,hx,h2,rs⟩:=w1.cell n _ a hn ha
   obtain ⟨o,I2⟩:=inv_frzd I1 hx
   have g2:Grow H1 θ1 μ1 (upd H1 a (.frz o (.dK kvs))) θ1 (μ1.set n .gone):=Grow.frzd w1 hn (by simp) ha
   refine ⟨.ref a,_,I2,rv,f1 (.fdc ks ds) (.ref a) _ θ1 (μ1.set n .gone) (w1.frzd hn (by simp) ha) g2 ?_ h1⟩
   unfold Rep
   exact ⟨a,o,kvs,rfl,Wb,V1 w1 ha,h2,g2.reps rs⟩
  ·rename_i ks ds hn
   obtain ⟨a,rfl,ha⟩:=Zc r1
   obtain ⟨kvs,hx,h2,rs⟩:=w1.cell n _ a hn ha
   obtain ⟨o,I2⟩:=inv_frzt I1 hx
   have g2:Grow H1 θ1 μ1 (upd H1 a (.frz o (.dT kvs))) θ1 (μ1.set n (.fdt o ks ds)):=Grow.write hn ha (by simp) (by simp)
   refine ⟨.ref a,_,I2,rv,f1 (.loc n) (.ref a) _ θ1 (μ1.set n (.fdt o ks ds)) (w1.write (c':=.fdt o ks ds) hn ha (by simp) (by simp) ⟨kvs,Wb,h2,g2.reps rs⟩) g2 ?_ (h1 o)⟩
   unfold Rep
   exact ⟨a,rfl,ha⟩
  ·exact ⟨v,H1,I1,rv,f1.at w1 r1 h1⟩
  ·exact h1.elim
 | _=>exact ⟨v,H1,I1,rv,f1.at w1 r1 h1⟩
theorem pe_callD {x:Str} {sp:DSp} {ws:WA} {p pos:Pos} {e:Expr} {es:List Expr} (R:Y4 X (.fn x) sp) (hg:Gl X x) (ha:PA X (e :: es) (LA X.K ws)) (hdb:(x == ("__debug__" : Str))=false) (hs:starEach (e :: es) X.env=(false,eval e X.env) :: starEach es X.env)
  (hpl:(backTo pos (starEach es X.env)).any (·.1)=false):PE X (.Call (.Name x p) (e :: es) [] pos) (LE X.K fun ρ μ Q=>ws ρ μ fun ds μ1=>sp ds μ1 Q):=by
 obtain ⟨fa,fd,ps,k,hm,hk,hb,F,hr⟩:=R
 refine PE.wk (pe_call F hr hg hm hk hb .nil passE ha hdb hs hpl) fun σ H Q h=>?_
 obtain ⟨ρ,θ,μ,Qd,s,h,f⟩:=h
 refine ⟨ρ,θ,μ,_,s,h,fun ds vs H1 θ1 μ1 w1 g1 r1 h1=>?_⟩
 dsimp only
 rw [List.append_nil]
 exact ⟨ds,θ1,μ1,Qd,w1,r1,h1,f.mono g1⟩
theorem pe_call0D {x:Str} {sp:DSp} {p pos:Pos} (R:Y4 X (.fn x) sp) (hg:Gl X x) (hdb:(x == ("__debug__" : Str))=false):PE X (.Call (.Name x p) [] [] pos) (LE X.K fun ρ μ Q=>sp [] μ Q):=by
 obtain ⟨fa,fd,ps,k,hm,hk,hb,F,hr⟩:=R
 refine PE.wk (pe_call0 F hr hg hm hk hb .nil passE hdb) fun σ H Q h=>?_
 obtain ⟨ρ,θ,μ,Qd,s,h,f⟩:=h
 exact ⟨[],θ,μ,Qd,s.wok,Reps.nil,h,f⟩
theorem pe_bltKD {y:Str} {p pos kpos:Pos} {a b:Expr} {wa wb:WE} {nm:Option Str} (ey:y=Str.ofString "max") (en:nm=some (Str.ofString "default")) (hc:X.calm=true) (g:Gl X y) (m:X.mg y=none) (ha:PE X a (LE X.K wa)) (hb:PE X b (LE X.K wb)) (hs:starEach [a] X.env=(false,eval a X.env) :: starEach [] X.env) :
  PE X (.Call (.Name y p) [a] [⟨nm,b,kpos⟩] pos) (LE X.K fun ρ μ Q=>wa ρ μ fun d μ1=>wb ρ μ1 fun e μ2=>wBltM d e μ2 Q):=by
 subst ey en
 intro pins s σ H Q I h
 obtain ⟨ρ,θ,μ,Qd,sm,h,f⟩:=h
 refine wpAny_Call_Name_kw (Wr I g m PyProof.Rows.boot_max ?_ (by decide +kernel) (by decide +kernel))
 have hA:PA X [a] (tCons (LE X.K wa) tNil):=Xak ha pa_nil hs
 have hK:PK X [⟨some (Str.ofString "default"),b,kpos⟩] (tCons (LE X.K wb) tNil):=pk_cons hb pk_nil
 have hs':backTo pos (starEach [a] X.env)=(false,eval a X.env) :: backTo pos (starEach [] X.env):=by rw [hs]; rfl
 refine callWith_kw (thn (hA pos pins s σ H (fun vs H1=>∃ d v θ1 μ1,vs=[v]∧WOk X.K H1 θ1 μ1∧Grow H θ μ H1 θ1 μ1∧Rp X.K H1 θ1 μ1 d v∧wb ρ μ1 fun e μ2=>wBltM d e μ2 Qd) I ⟨ρ,θ,μ,_,sm,h,fun d v H1 θ1 μ1 w1 g1 r1 h1=>⟨d,v,θ1,μ1,rfl,w1,g1,r1,h1⟩⟩) fun us s1 ⟨vs,H1,I1,r1,d,v,θ1,μ1,ev,w1,g1,rd,h1⟩=>?_) hs' (by rw [hs']; rfl) rfl rfl
 subst ev
 refine thn (hK pos pins s1 σ H1 (fun vs H2=>∃ e w' θ2 μ2,vs=[w']∧WOk X.K H2 θ2 μ2∧Grow H1 θ1 μ1 H2 θ2 μ2∧Rp X.K H2 θ2 μ2 e w'∧wBltM d e μ2 Qd) I1 ⟨ρ,θ1,μ1,_,sm.grow w1 g1,h1,fun e v H2 θ2 μ2 w2 g2 r2 h2=>⟨e,v,θ2,μ2,rfl,w2,g2,r2,h2⟩⟩) fun ks s2 ⟨zs,H2,I2,r2,e,w',θ2,μ2,ez,w2,g2,re,h2⟩=>?_
 subst ez
 obtain ⟨u,rfl,ru⟩:=vals1 r1
 obtain ⟨u2,rfl,ru2⟩:=vals1 r2
 show wpAny _ _ (call (.builtin "max") [u] [(Str.ofString "default",u2)]) _ _ _
 have f2:=f.mono (g1.trans g2)
 have rd2:=g2.rep rd
 unfold wBltM at h2
 cases q:Wm μ2 d with
 | none=>rw [q] at h2; exact h2.elim
 | some ds =>
  rw [q] at h2
  obtain ⟨p',xs,rfl,hx,rs⟩:=Vl w2 rd2 q
  cases ru
  cases qi:Vt ds with
  | none=>simp only [Option.bind_some,qi] at h2
  | some ns =>
   simp only [Option.bind_some,qi] at h2
   cases Yag rs qi
   refine Xa0 hc pins s2 σ H2 p' ns w' u2 Q I2 hx ru2 ?_
   cases ns with
   | nil=>exact f2.at w2 re h2
   | cons n r=>exact f2.at w2 Yc h2
end
theorem Z3 {c:Ctx}:∀ {cap:List Nat} {cs:List Str},Zm c cap=some cs→cs.length=cap.length∧∀ (j:Nat) (y:Str),cs[j]? = some y→∃ i,cap[j]? = some i∧c.N[i]? = some y
 | [],cs,h=>by simp only [Zm,Option.some.injEq] at h; subst h; exact ⟨rfl,fun j y e=>by simp at e⟩
 | i :: is,cs,h=>by
  simp only [Zm] at h
  split at h
  ·rename_i x r e1 e2
   simp only [Option.some.injEq] at h
   subst h
   obtain ⟨h1,h2⟩:=Z3 e2
   refine ⟨by simp [h1],fun j y e=>?_⟩
   cases j with
   | zero=>simp at e; subst e; exact ⟨i,rfl,e1⟩
   | succ j =>
    obtain ⟨i',a1,a2⟩:=h2 j y (by simpa using e)
    exact ⟨i',by simpa using a1,a2⟩
  ·cases h
theorem Vag {X:Cx} {c:Ctx} {scope:Scope} {xs:List Str} {cap:List Nat} {cs:List Str} (C:CtxOk X c) (h1:Zm c cap=some cs) (h:Xa8 c scope (xs ++ cs) cs=true):CompTxt X xs scope (xs ++ cs) cap:=by
 simp only [Xa8,Bool.and_eq_true,List.all_eq_true] at h
 obtain ⟨⟨⟨⟨⟨k1,k2⟩,k3⟩,k5⟩,k6⟩,k7⟩:=h
 obtain ⟨hl,hg⟩:=Z3 h1
 refine ⟨by simpa using k1,fun y hy hc=>?_,fun y hy hloc=>?_,of_decide_eq_true k5,fun j y e=>?_,by simp [hl],fun y hy hf=>?_⟩
 ·have:=k2 y hy
  rw [hc] at this
  simpa using this
 ·have:=k3 y hy
  rw [hloc] at this
  simpa using this
 ·have e':cs[j]? = some y:=by
   rw [List.getElem?_append_right (by omega)] at e
   simpa using e
  obtain ⟨i,a1,a2⟩:=hg j y e'
  refine ⟨i,a1,by rw [C.N]; exact a2,?_⟩
  have:=k6 y (List.mem_of_getElem? e')
  simpa using this
 ·have:=k7 y hy
  rw [hf] at this
  refine C.clo y.1 ?_
  simpa using this
theorem Vq {X:Cx} {c:Ctx} {scope:Scope} {xs:List Str} {cs:List Str} (C:CtxOk X c) (h:Xa8 c scope (xs ++ cs) cs=true) (cl:List (Str×Addr)) (Ca:Addr) (s:Shared) (H:Hp) (ex:List Addr) :
  CtxOk (Vw X (xs ++ cs) scope cl Ca s H ex) (c.in_ (xs ++ cs) scope.names):=by
 simp only [Xa8,Bool.and_eq_true,List.all_eq_true] at h
 obtain ⟨⟨⟨⟨⟨k1,k2⟩,k3⟩,k5⟩,k6⟩,k7⟩:=h
 have cel:∀ y,scope.names.lookup y=some .cell→(relabel scope X.env).names.lookup y=some .cell:=fun y z=>relabel_cell z
 have lk:∀ y,scope.names.lookup y=some .local→(relabel scope X.env).names.lookup y=some .local:=fun y z=>lookup_relabel_local z
 refine ⟨rfl,of_decide_eq_true k5,fun y hy=>?_,fun y hy=>?_,fun y hy=>?_,fun y hy=>?_,fun y hy=>?_,C.blt,C.calm,C.room,PassesOwn.never⟩
 ·unfold Ctx.vis at hy
  split at hy
  ·rename_i z; exact .inl (lk y z)
  ·rename_i z; exact .inr (.inl (cel y z))
  ·rename_i z
   rcases relabel_free (env:=X.env) z with q | q
   ·exact .inr (.inr q)
   ·exact .inr (.inl q)
  ·cases hy
 ·unfold Ctx.loc at hy
  split at hy
  ·rename_i z; exact ⟨.inl (lk y z),.inr (lk y z)⟩
  ·rename_i z; exact ⟨.inr (cel y z),.inl (by show (scope.names.lookup y == some .cell)=true; rw [z]; rfl)⟩
  ·cases hy
 ·exact lk y (by simpa [isLocal] using hy)
 ·unfold Ctx.glb at hy
  split at hy
  ·rename_i z
   show (relabel scope X.env).names.lookup y=some .globalImplicit
   exact Vau z
  ·cases hy
 ·rcases hy with hy | hy
  ·exact .inl (cel y hy)
  ·exact (relabel_free (env:=X.env) hy).symm
section
variable {X:Cx}
theorem Xaf {c:Ctx} (C:CtxOk X c):∀ {is:List Nat} {ts:List Expr},Wl c is ts=true→PGs X ts (gNames is)∧(assignEach ts X.env).length=is.length∧(assignEach ts X.env).findIdx? (·.1)=none
 | [],[],_=>⟨pgs_nil,rfl,rfl⟩
 | [],_ :: _,h=>by simp [Wl] at h
 | _ :: _,[],h=>by simp [Wl] at h
 | i :: is,t :: ts,h=>by
  simp only [Wl,Bool.and_eq_true] at h
  obtain ⟨h1,h2⟩:=h
  cases t with
  | Name x p =>
   simp only [Bool.and_eq_true] at h1
   obtain ⟨k1,k2,k3⟩:=Xaf C h2
   obtain ⟨l1,l2⟩:=C.loc x h1.2
   refine ⟨pgs_cons (pg_name (by rw [C.N]; exact C.nd) (by rw [C.N]; exact Yap h1.1) l1 l2) k1 rfl,?_,?_⟩
   ·show (assignEach ts X.env).length + 1=_
    rw [k2]; rfl
   ·show List.findIdx? (fun x=>x.1) ((false,assign (.Name x p) X.env) :: assignEach ts X.env)=none
    rw [List.findIdx?_cons]
    simp [k3]
  | _=>simp at h1
theorem pg_of {c:Ctx} (C:CtxOk X c) {is:List Nat} {tt:Bool} (hcm:tt=true→c.calm=true) {a:Expr} (h:mTg c is tt a=true):PG X a (LG X.K fun d r k=>Yg is tt d r k):=by
 cases tt with
 | false =>
  have h:Wl c is [a]=true:=h
  match is,h with
  | [i],h =>
   cases a with
   | Name x p =>
    simp only [Wl,Bool.and_eq_true] at h
    obtain ⟨⟨h1,h2⟩,_⟩:=h
    obtain ⟨l1,l2⟩:=C.loc x h2
    exact pg_nameD (by rw [C.N]; exact C.nd) (by rw [C.N]; exact Yap h1) l1 l2
   | _=>exact (Bool.false_ne_true h).elim
  | [],h=>simp [Wl] at h
  | _ :: _ :: _,h=>simp [Wl] at h
 | true =>
  cases a with
  | Tuple ts k p =>
   obtain ⟨k1,k2,k3⟩:=Xaf C (show Wl c is ts=true from h)
   exact pg_tupD (C.calm (hcm rfl)) k1 k2 k3
  | _=>exact (Bool.false_ne_true h).elim
end
theorem tgn {tt:Bool} {a:Expr} {xs:List Str} (h:Wai tt a=some xs):tt=false→xs.length=1:=by
 rintro rfl
 cases a <;> first | (cases h; rfl) | cases h
end DW
end
section
set_option autoImplicit false
set_option maxHeartbeats 2000000
namespace DW
open PySem PySem.Spec PyProof.Rows L2
section
variable {X:Cx}
theorem getI_ok:PGet X (low2 X.K wGetI):=by
 intro pins s σ H o i ov iv Q I ro ri h
 obtain ⟨d,e,θ,μ,Qd,wk,rd,re,hw,f⟩:=h
 unfold wGetI at hw
 split at hw
 ·rename_i n j
  obtain ⟨a,rfl,ha⟩:=Zc rd
  cases Zb re
  cases ro
  obtain ⟨t,rfl⟩:=ri
  split at hw
  ·rename_i xs hn
   obtain ⟨ys,hH,rs⟩:=wk.cell n _ a hn ha
   obtain ⟨h0,hw⟩:=hw
   split at hw
   ·rename_i d hd
    obtain ⟨v,e1,e2⟩:=rs.get hd
    obtain ⟨its,rv,pl,hz⟩:=I.list (SqL.of hH)
    obtain ⟨u,eu,ru⟩:=rv.get e1
    have hl:=(List.getElem?_eq_some_iff.mp e1).1
    have hn:=V9
    exact wpAny_getItem_list pl.isList h0 (by omega) (by simpa using eu) ⟨v,H,I,ru,f.at wk e2 hw⟩
   ·exact hw.elim
  ·exact hw.elim
 ·exact hw.elim
theorem Za2 {i:Expr} (h:Vg i=true):∀ ov iv new,augStore i ov iv new=(do holding [new,ov,iv] (setItem ov iv new); release [new,ov,iv] []; pure .next):=by
 intro ov iv new
 cases i <;> first | rfl | exact (Bool.false_ne_true h).elim
theorem ls_augIx {EX:L2.St→XK} {op:Operator} {g:Int→Int→Int} {wo wi we:WE} {D:Ends} {σ:L2.St} {H:Hp} (hg:∀ p q k,Xar op p q k→∃ i j,p = .int i∧q = .int j∧k (.int (g i j)))
  (h:LS X.K EX (fun Z ρ μ=>wo ρ μ fun x μ1=>wi ρ μ1 fun y μ2=>wGetI x y μ2 fun p μ3=>we ρ μ3 fun q μ4=>Xar op p q fun v=>Wo x y v μ4 fun μ5=>Z.nx ρ μ5) D σ H) :
  tAugS (LE X.K wo) (LE X.K wi) (LE X.K we) (low2 X.K wGetI) (ipI g) (fun o i v H Q=>∃ x y z θ μ k,WOk X.K H θ μ∧Rp X.K H θ μ x o∧Rp X.K H θ μ y i∧Rp X.K H θ μ z v∧Wo x y z μ k∧∀ H' μ',WOk X.K H' θ μ'→Grow H θ μ H' θ μ'→k μ'→Q H') D σ H:=by
 obtain ⟨ρ,θ,μ,Z,s,h,f⟩:=h
 refine ⟨ρ,θ,μ,_,s,h,fun x vx H1 θ1 μ1 w1 g1 r1 h1=>⟨ρ,θ1,μ1,_,s.grow w1 g1,h1,fun y vy H2 θ2 μ2 w2 g2 r2 h2=>?_⟩⟩
 refine ⟨x,y,θ2,μ2,_,w2,g2.rep r1,r2,h2,fun p vp H3 θ3 μ3 w3 g3 r3 h3=>⟨ρ,θ3,μ3,_,s.grow w3 ((g1.trans g2).trans g3),h3,fun q vq H4 θ4 μ4 w4 g4 r4 h4=>?_⟩⟩
 obtain ⟨i,j,rfl,rfl,hk⟩:=hg _ _ _ h4
 cases Zb r3
 cases Zb r4
 refine ⟨i,j,rfl,rfl,x,y,.int (g i j),θ4,μ4,_,w4,((g2.trans g3).trans g4).rep r1,(g3.trans g4).rep r2,Yc,hk,fun H5 μ5 w5 g5 z=>?_⟩
 exact f.nx σ H5 ρ θ4 μ5 (s.grow w5 ((((g1.trans g2).trans g3).trans g4).trans g5)) ((((g1.trans g2).trans g3).trans g4).trans g5) z
theorem augI_add (p q:D) (k:D→Prop) (h:Xar .Add p q k):∃ i j,p = .int i∧q = .int j∧k (.int (i + j)):=by
 unfold Xar at h
 split at h
 ·exact ⟨_,_,rfl,rfl,h⟩
 ·exact h.elim
theorem augI_sub (p q:D) (k:D→Prop) (h:Xar .Sub p q k):∃ i j,p = .int i∧q = .int j∧k (.int (i - j)):=by
 unfold Xar at h
 split at h
 ·exact ⟨_,_,rfl,rfl,h⟩
 ·exact h.elim
end
end DW
end
section
set_option autoImplicit false
set_option maxHeartbeats 2000000
namespace DW
open PySem PySem.Spec PyProof.Rows L2
section
variable {K:PySem.W.Frag} {H:Hp} {θ:List Addr} {μ:Mem} {κ κ':Type} [DecidableEq κ] [DecidableEq κ']
theorem dput_ok (f:κ→κ') (inj:∀ a b,f a=f b→a=b) {ks:List κ} {ds:List D} {kvs:List (κ'×V)} {k:κ} {d:D} {v:V} (h1:kvs.map (·.1)=ks.map f) (h2:Rps K H θ μ ds (kvs.map (·.2))) (hd:Rp K H θ μ d v) :
  (putK kvs (f k) v).map (·.1)=(Zn ks k).map f∧Rps K H θ μ (Xr ks ds k d) ((putK kvs (f k) v).map (·.2)):=by
 have hm:=Zam (k:=k) f inj h1
 unfold putK Zn Xr
 by_cases c:k∈ks
 ·rw [if_pos (hm.mpr c),if_pos c,if_pos c]
  refine ⟨?_,?_⟩
  ·rw [← h1,List.map_map]
   refine List.map_congr_left fun p _=>?_
   show (if p.1=f k then (p.1,v) else p).1=p.1
   split <;> rfl
  ·clear hm c
   induction kvs generalizing ks ds with
   | nil =>
    cases ds with
    | nil=>cases ks <;> simpa using Reps.nil
    | cons _ _=>have:=h2.length; simp at this
   | cons p kvs ih =>
    cases ks with
    | nil=>simp at h1
    | cons k' ks =>
     cases ds with
     | nil=>have:=h2.length; simp at this
     | cons d' ds =>
      simp only [List.map_cons,List.cons.injEq] at h1
      rw [List.map_cons] at h2
      obtain ⟨v',r,e,r1,r2⟩:=h2.cons_inv
      cases e
      rw [List.map_cons,List.map_cons,List.zipWith_cons_cons]
      refine Reps.cons ?_ (ih h1.2 r2)
      by_cases c:k'=k
      ·rw [if_pos c,if_pos (by rw [h1.1,c])]; exact hd
      ·rw [if_neg c,if_neg (fun e=>c (inj _ _ (h1.1.symm.trans e)))]; exact r1
 ·rw [if_neg (fun e=>c (hm.mp e)),if_neg c,if_neg c]
  refine ⟨by rw [List.map_append,List.map_append,h1]; rfl,?_⟩
  rw [List.map_append]
  exact h2.append (Reps.one hd)
end
section
variable {K:PySem.W.Frag} {H:Hp} {θ:List Addr} {μ:Mem}
theorem new_dct {t:Bool} {Qd:QD} {Q:VK} {p:Addr} (wk:WOk K H θ μ) (f:Fin K H θ μ Qd Q) (h:Qd (.loc μ.length) (μ ++ [if t=true then .dtc [] [] else .dic [] []])) (hp:H p=none):Q (.ref p) (upd H p (if t=true then .dT [] else .dK [])):=by
 have g:Grow H θ μ (upd H p (if t=true then .dT [] else .dK [])) (θ ++ [p]) (μ ++ [if t=true then Cell.dtc [] [] else Cell.dic [] []]):=Grow.new wk hp
 refine f (.loc μ.length) (.ref p) _ (θ ++ [p]) _ (wk.new hp ?_) g ?_ h
 ·cases t with
  | true=>exact ⟨[],by rw [Wb]; rfl,rfl,Reps.nil⟩
  | false=>exact ⟨[],by rw [Wb]; rfl,rfl,Reps.nil⟩
 ·unfold Rep
  exact ⟨p,rfl,by rw [← wk.len]; simp⟩
end
section
variable {X:Cx}
theorem pe_dnewD {t:Bool} {pos:Pos}:PE X (.Dict [] [] pos) (LE X.K fun _ μ Q=>Q (.loc μ.length) (μ ++ [if t=true then .dtc [] [] else .dic [] []])):=by
 intro pins s σ H Q I h
 obtain ⟨ρ,θ,μ,Qd,sm,h,f⟩:=h
 cases t with
 | true=>exact pe_dnewT pins s σ H Q I fun p hp=>new_dct (t:=true) sm.wok f h hp
 | false=>exact pe_dnewK pins s σ H Q I fun p hp=>new_dct (t:=false) sm.wok f h hp
theorem dput_step {n:Nat} {x y v:D} {H:Hp} {θ:List Addr} {μ:Mem} {vx vy vv:V} {k:Mem→Prop} (w:WOk X.K H θ μ) (rx:Rp X.K H θ μ x vx) (ry:Rp X.K H θ μ y vy) (rv:Rp X.K H θ μ v vv) (h:wDput x y v μ k) :
  ∃ a H4 μ4,vx = .ref a∧DPut H a vy vv H4∧WOk X.K H4 θ μ4∧Grow H θ μ H4 θ μ4∧k μ4:=by
 unfold wDput at h
 split at h
 ·rename_i n
  obtain ⟨a,rfl,ha⟩:=Zc rx
  split at h
  ·rename_i ks ds hn
   obtain ⟨kvs,e1,e2,e3⟩:=w.cell n _ a hn ha
   split at h
   ·rename_i q hq
    have hl:kvs.length < sizeLine:=by
     have:kvs.length=ks.length:=by simpa using congrArg List.length e2
     rw [this,sizeLine_eq]; exact h.1
    have g:Grow H θ μ (upd H a (.dK (putK kvs (keyOf q) vv))) θ (μ.set n (.dic (Zn ks q) (Xr ks ds q v))):=Grow.write hn ha (by simp) (by simp)
    obtain ⟨p1,p2⟩:=dput_ok (K:=X.K) (k:=q) keyOf (fun _ _=>Yaa) e2 (g.reps e3) (g.rep rv)
    have w4:WOk X.K (upd H a (.dK (putK kvs (keyOf q) vv))) θ (μ.set n (.dic (Zn ks q) (Xr ks ds q v))):=w.write (c':=.dic (Zn ks q) (Xr ks ds q v)) hn ha (by simp) (by simp) ⟨_,Wb,p1,p2⟩
    exact ⟨a,_,_,rfl,by rw [Yam hq ry]; exact DPut.k e1 hl,w4,g,h.2⟩
   ·exact h.elim
  ·rename_i ks ds hn
   obtain ⟨kvs,e1,e2,e3⟩:=w.cell n _ a hn ha
   split at h
   ·rename_i es
    split at h
    ·rename_i q hq
     have hl:kvs.length < sizeLine:=by
      have:kvs.length=ks.length:=by simpa using congrArg List.length e2
      rw [this,sizeLine_eq]; exact h.1
     obtain ⟨b,xs,rfl,hb,_,rs⟩:=We ry
     have g:Grow H θ μ (upd H a (.dT (putK kvs (q.map keyOf) vv))) θ (μ.set n (.dtc (Zn ks q) (Xr ks ds q v))):=Grow.write hn ha (by simp) (by simp)
     obtain ⟨p1,p2⟩:=dput_ok (K:=X.K) (k:=q) (fun l:List DKey=>l.map keyOf) (fun _ _=>Vaf) e2 (g.reps e3) (g.rep rv)
     have w4:WOk X.K (upd H a (.dT (putK kvs (q.map keyOf) vv))) θ (μ.set n (.dtc (Zn ks q) (Xr ks ds q v))):=w.write (c':=.dtc (Zn ks q) (Xr ks ds q v)) hn ha (by simp) (by simp) ⟨_,Wb,p1,p2⟩
     exact ⟨a,_,_,rfl,DPut.t e1 (by rw [hb,V5 hq rs]) hl,w4,g,h.2⟩
    ·exact h.elim
   ·exact h.elim
  ·exact h.elim
 ·exact h.elim
theorem ps_dputD {EX:L2.St→XK} {o i value:Expr} {wo wi we:WE} {pos pos':Pos} (hu:X.A.units + 1 < cLine) (ho:PE X o (LE X.K wo)) (hi:PE X i (LE X.K wi)) (hv:PE X value (LE X.K we)) (hs:swapsWith value (some (.Subscript o i pos')) pos.line X.env=pure false) :
  PS X (.Assign [.Subscript o i pos'] value pos) (LS X.K EX fun Z ρ μ=>we ρ μ fun v μ1=>wo ρ μ1 fun x μ2=>wi ρ μ2 fun y μ3=>wDput x y v μ3 fun μ4=>Z.nx ρ μ4):=by
 intro pins s σ H D I h
 refine ps_dput hu ho hi hv hs pins s σ H D I ?_
 obtain ⟨ρ,θ,μ,Z,sm,h,f⟩:=h
 refine ⟨ρ,θ,μ,_,sm,h,fun d v H1 θ1 μ1 w1 g1 r1 h1=>⟨ρ,θ1,μ1,_,sm.grow w1 g1,h1,fun x vx H2 θ2 μ2 w2 g2 r2 h2=>⟨ρ,θ2,μ2,_,sm.grow w2 (g1.trans g2),h2,fun y vy H3 θ3 μ3 w3 g3 r3 h3=>?_⟩⟩⟩
 obtain ⟨a,H4,μ4,e,p,w4,g4,q⟩:=dput_step (n:=0) w3 (g3.rep r2) r3 ((g2.trans g3).rep r1) h3
 exact ⟨a,H4,e,p,f.nx σ H4 ρ θ3 μ4 (sm.grow w4 (((g1.trans g2).trans g3).trans g4)) (((g1.trans g2).trans g3).trans g4) q⟩
end
end DW
end
section
set_option autoImplicit false
set_option maxHeartbeats 2000000
namespace DW
open PySem PySem.Spec PyProof.Rows L2 PySem.SeqAt
section
variable {X:Cx}
end
end DW
end
section
set_option autoImplicit false
set_option maxHeartbeats 2000000
namespace DW
open PySem PySem.Spec PyProof.Rows L2 PySem.SeqAt PySem.Builtin PySem.Builtin.Str
section
variable {X:Cx}
end
end DW
end
section
set_option autoImplicit false
set_option maxHeartbeats 2000000
namespace DW
section
open PySem PySem.SeqAt
open AutoSeq1 (wpAny_loadPart')
open MeetsSeq MeetsSeq2 MeetsSeq3 SeqRoads2
end
open PySem PySem.Spec PyProof.Rows L2 PySem.SeqAt
section
variable {X:Cx}
end
end DW
end
section
set_option autoImplicit false
set_option maxHeartbeats 4000000
namespace DW
open PySem PySem.Spec PyProof.Rows L2 PySem.SeqAt
open PySem.AutoSeq1 (wpAny_loadPart')
theorem IsItem.keep {h h':Heap} {v:Value} {x:Itm} (k:∀ b o,h.get? b=some o→h'.get? b=some o) (i:IsItem h v x):IsItem h' v x:=by
 obtain ⟨p,o,t,u,n,e,g,r⟩:=i
 exact ⟨p,o,t,u,n,e,k _ _ g,r⟩
section
variable {prog:Program} {w:World} {A:Around} {E:Value→Shared→Prop}
end
section
variable {X:Cx}
end
end DW
end
section
set_option autoImplicit false
set_option maxHeartbeats 2000000
namespace DW
open PySem PySem.Spec PyProof.Rows L2
section
variable {X:Cx}
theorem pe_dd1 {k v:Expr} {pos:Pos} {wa wb:WE} (hk:PE X k (LE X.K wa)) (hv:PE X v (LE X.K wb)):PE X (.Dict [some k] [v] pos)
   (LE X.K fun ρ μ Q=>wa ρ (μ ++ [.dic [] []]) fun x μ1=>wb ρ μ1 fun y μ2=>wDd1 μ.length x y μ2 Q):=by
 refine PE.wk (pe_disp (Xbf hk hv pps_nil) rfl rfl (by simp) (by simp)) fun σ H Q q=>?_
 obtain ⟨ρ,θ,μ,Qd,sm,q,f⟩:=q
 intro p hp
 have wk:=sm.wok
 have g0:Grow H θ μ (upd H p (.dK [])) (θ ++ [p]) (μ ++ [Cell.dic [] []]):=Grow.new wk hp
 have w0:WOk X.K (upd H p (.dK [])) (θ ++ [p]) (μ ++ [Cell.dic [] []]):=wk.new hp ⟨[],by rw [Wb],rfl,Reps.nil⟩
 have hth:(θ ++ [p])[μ.length]? = some p:=by rw [← wk.len]; simp
 have s0:=sm.grow w0 g0
 refine ⟨ρ,θ ++ [p],μ ++ [.dic [] []],_,s0,q,fun d1 v1 H1 θ1 μ1 w1 g1 r1 h1=>?_⟩
 refine ⟨ρ,θ1,μ1,_,s0.grow w1 g1,h1,fun d2 v2 H2 θ2 μ2 w2 g2 r2 h2=>?_⟩
 unfold wDd1 at h2
 split at h2
 ·rename_i kk hkk
  obtain ⟨hc,h3⟩:=h2
  have g12:=g1.trans g2
  have ha:θ2[μ.length]? = some p:=g12.pre _ _ hth
  obtain ⟨kvs,hH,hk',hr⟩:=w2.cell _ _ p hc ha
  have hk0:kvs=[]:=by simpa using hk'
  subst hk0
  have ey:=Yam hkk (g2.rep r1)
  subst ey
  refine ⟨hH,[(keyOf kk,v2)],rfl,by simp,?_⟩
  have em:Z9 [] [(keyOf kk,v2)]=[(keyOf kk,v2)]:=by simp [Z9,putK]
  rw [em]
  have gw:Grow H2 θ2 μ2 (upd H2 p (.dK [(keyOf kk,v2)])) θ2 (μ2.set μ.length (.dic [kk] [d2])):=Grow.write hc ha (by simp) (by simp)
  refine f (.loc μ.length) (.ref p) _ θ2 _ (w2.write (c':=.dic [kk] [d2]) hc ha (by simp) (by simp) ⟨_,Wb,rfl,Reps.one (gw.rep r2)⟩) ((g0.trans g12).trans gw) ?_ h3
  unfold Rep
  exact ⟨p,rfl,ha⟩
 ·exact h2.elim
theorem pe_disT {k v:Expr} {pos:Pos} {tk tv:TE} (hu:X.A.units + 1 < cLine) (hk:PE X k tk) (hv:PE X v tv):PE X (.Dict [some k] [v] pos)
  (fun σ H Q=>∀ p,H p=none→tk σ (upd H p (.dT [])) fun x H1=>tv σ H1 fun y H2=>H2 p=some (.dT [])∧∃ b ks,x = .ref b∧H2 b=some (.tup (ks.map kV))∧Q (.ref p) (upd H2 p (.dT [(ks,y)]))):=by
 intro pins s σ H Q I q
 have hn:=I.hok.fresh (Nat.le_refl s.heap.objs.size)
 have I1:=I.laid (a:=s.heap.objs.size) (o:=.dT []) (h':=s.heap.push { cls:=.type "dict",data:=.dict #[] }) (t':=s.toks) (fun _ _ q=>Heap.get?_push_of_some _ q) (Nat.le_refl _) (dt_empty s.heap I.big)
 have pp:PPs X pos [some k] [v] [(tk,tv)]:=Xbf hk hv pps_nil
 refine wpAny_Dict_any rfl rfl (by simp) (by simp) (thn (pp pins _ σ _ (fun ps H2=>∃ x y,ps=[(x,y)]∧H2 s.heap.objs.size=some (.dT [])∧∃ b ks,x = .ref b∧H2 b=some (.tup (ks.map kV))∧Q (.ref s.heap.objs.size) (upd H2 s.heap.objs.size (.dT [(ks,y)]))) I1 ?_) fun ws s2 ⟨ps,H2,I2,rel,x,y,ep,e,b,ks,ex,eb,q2⟩=>?_)
 ·have q0:=q _ hn
  have mono:Wbd [(tk,tv)] σ (upd H s.heap.objs.size (.dT [])) (fun ps H2=>∃ x y,ps=[(x,y)]∧H2 s.heap.objs.size=some (.dT [])∧∃ b ks,x = .ref b∧H2 b=some (.tup (ks.map kV))∧Q (.ref s.heap.objs.size) (upd H2 s.heap.objs.size (.dT [(ks,y)])))=(tk σ (upd H s.heap.objs.size (.dT [])) fun x H1=>tv σ H1 fun y H2=>∃ x' y',[(x,y)]=[(x',y')]∧H2 s.heap.objs.size=some (.dT [])∧∃ b ks,x' = .ref b∧H2 b=some (.tup (ks.map kV))∧Q (.ref s.heap.objs.size) (upd H2 s.heap.objs.size (.dT [(ks,y')]))):=rfl
  rw [mono]
  have e:(fun (x:V) (H1:Hp)=>tv σ H1 fun y H2=>∃ x' y',[(x,y)]=[(x',y')]∧H2 s.heap.objs.size=some (.dT [])∧∃ b ks,x' = .ref b∧H2 b=some (.tup (ks.map kV))∧Q (.ref s.heap.objs.size) (upd H2 s.heap.objs.size (.dT [(ks,y')])))=fun x H1=>tv σ H1 fun y H2=>H2 s.heap.objs.size=some (.dT [])∧∃ b ks,x = .ref b∧H2 b=some (.tup (ks.map kV))∧Q (.ref s.heap.objs.size) (upd H2 s.heap.objs.size (.dT [(ks,y)])):=by
   funext x H1
   congr 1
   funext y H2
   apply propext
   constructor
   ·rintro ⟨x',y',h1,h2⟩; cases h1; exact h2
   ·intro h2; exact ⟨x,y,rfl,h2⟩
  rw [e]
  exact q0
 ·subst ep ex
  obtain ⟨⟨wa,wb⟩,rfl,rx,ry⟩:∃ wv:Value×Value,ws=[wv]∧RelV (.ref b) wv.1∧RelV y wv.2:=by
   cases rel with
   | cons h t=>cases t; exact ⟨_,rfl,h.1,h.2⟩
  replace rx:wa=Value.ref b:=rx
  subst rx
  replace ry:RelV y wb:=ry
  unfold storeAll
  rw [List.forIn_cons]
  obtain ⟨z,hd,xs,rel',dd⟩:=dt_of I2.hok e
  cases rel'
  refine wpAny_bind (wpAny_bind (wpAny_dictSet_heap (hsz:=by simp) (knd:=tupleKind (Vd X.prog X.w)) (show X.A.units < cLine by omega) (Zax I2.hok eb) dd fun h' hm' hs=>wpAny_pure ?_))
  dsimp only
  rw [List.forIn_nil]
  obtain ⟨o2,es,ep2,h1,h2,h3,h4,_,h5⟩:=hm'
  refine wpAny_pure ⟨.ref s.heap.objs.size,_,Yao (ob:=.dT [(ks,y)]) I2 (by rw [e]; exact True.intro) hs ⟨o2,h1⟩ ⟨?_,hd,[(ks,b,wb)],.cons ⟨rfl,?_,ry⟩ .nil,o2,es,ep2,h1,h2,h3,h4,h5⟩,rfl,q2⟩
  ·rw [sizeLine_eq]; simp
  ·rw [Va (ne_of eb e (fun z=>nomatch z))]; exact eb
theorem pe_ddT {k v:Expr} {pos:Pos} {wa wb:WE} (hu:X.A.units + 1 < cLine) (hk:PE X k (LE X.K wa)) (hv:PE X v (LE X.K wb)):PE X (.Dict [some k] [v] pos)
   (LE X.K fun ρ μ Q=>wa ρ (μ ++ [.dtc [] []]) fun x μ1=>wb ρ μ1 fun y μ2=>wDdT μ.length x y μ2 Q):=by
 refine PE.wk (pe_disT hu hk hv) fun σ H Q q=>?_
 obtain ⟨ρ,θ,μ,Qd,sm,q,f⟩:=q
 intro p hp
 have wk:=sm.wok
 have g0:Grow H θ μ (upd H p (.dT [])) (θ ++ [p]) (μ ++ [Cell.dtc [] []]):=Grow.new wk hp
 have w0:WOk X.K (upd H p (.dT [])) (θ ++ [p]) (μ ++ [Cell.dtc [] []]):=wk.new hp ⟨[],by rw [Wb],rfl,Reps.nil⟩
 have hth:(θ ++ [p])[μ.length]? = some p:=by rw [← wk.len]; simp
 have s0:=sm.grow w0 g0
 refine ⟨ρ,θ ++ [p],μ ++ [.dtc [] []],_,s0,q,fun d1 v1 H1 θ1 μ1 w1 g1 r1 h1=>?_⟩
 refine ⟨ρ,θ1,μ1,_,s0.grow w1 g1,h1,fun d2 v2 H2 θ2 μ2 w2 g2 r2 h2=>?_⟩
 unfold wDdT at h2
 split at h2
 ·rename_i ds
  split at h2
  ·rename_i kk hkk
   obtain ⟨hc,h3⟩:=h2
   have g12:=g1.trans g2
   have ha:θ2[μ.length]? = some p:=g12.pre _ _ hth
   obtain ⟨kvs,hH,hk',hr⟩:=w2.cell _ _ p hc ha
   have hk0:kvs=[]:=by simpa using hk'
   subst hk0
   obtain ⟨b,xs,rfl,hb,_,rs⟩:=We (g2.rep r1)
   rw [V5 hkk rs] at hb
   refine ⟨hH,b,kk.map keyOf,rfl,hb,?_⟩
   have gw:Grow H2 θ2 μ2 (upd H2 p (.dT [(kk.map keyOf,v2)])) θ2 (μ2.set μ.length (.dtc [kk] [d2])):=Grow.write hc ha (by simp) (by simp)
   refine f (.loc μ.length) (.ref p) _ θ2 _ (w2.write (c':=.dtc [kk] [d2]) hc ha (by simp) (by simp) ⟨_,Wb,rfl,Reps.one (gw.rep r2)⟩) ((g0.trans g12).trans gw) ?_ h3
   unfold Rep
   exact ⟨p,rfl,ha⟩
  ·exact h2.elim
 ·exact h2.elim
end
end DW
end
section
set_option autoImplicit false
namespace DW
open PySem PySem.Spec PyProof.Rows L2
section
variable {X:Cx}
end
end DW
end
section
set_option autoImplicit false
namespace DW
open PySem PySem.Spec PyProof.Rows L2
section
variable {X:Cx}
variable {σ:L2.St} {H:Hp} {pins:List (Addr×Obj)} {l:List Nat} {rest:List (Sem Value)} {Q:List Nat→Prop}
end
end DW
end
section
set_option autoImplicit false
set_option maxHeartbeats 2000000
namespace DW
open PySem PySem.Spec PyProof.Rows L2
section
variable {K:PySem.W.Frag} {H:Hp} {θ:List Addr} {μ:Mem} {f:String} {d:D} {v:V}
end
section
variable {X:Cx}
theorem anyBase {o:Expr} {m:Str} {env:Env} (h:baseB o=true):attributeBase o m env (eval o env)=eval o env:=by
 cases o with
 | Call f as ks p=>obtain ⟨x,q,a,r,rfl,rfl⟩:=Xah h; rfl
 | _=>first | rfl | exact (Bool.false_ne_true h).elim
end
end DW
end
section
set_option autoImplicit false
set_option maxHeartbeats 2000000
namespace DW
open PySem PySem.Spec PyProof.Rows L2
section
variable {X:Cx}
end
section
variable {X:Cx} {EX:L2.St→XK}
end
end DW
end
section
set_option autoImplicit false
set_option maxHeartbeats 2000000
namespace DW
open PySem PySem.Spec PyProof.Rows L2
section
variable {X:Cx} {EX:L2.St→XK}
end
end DW
end
section
set_option autoImplicit false
set_option maxHeartbeats 2000000
namespace DW
open PySem PySem.Spec PyProof.Rows L2
variable {X:Cx}
end DW
end
section
set_option autoImplicit false
set_option maxHeartbeats 2000000
namespace DW
open PySem PySem.Spec PyProof.Rows L2
section
variable {prog:Program} {w:World} {A:Around} {E:Value→Shared→Prop} {s:Shared}
end
section
variable {X:Cx}
end
end DW
end
section
set_option autoImplicit false
set_option maxHeartbeats 4000000
namespace DW
open PySem PySem.Spec PyProof.Rows L2
section
variable {X:Cx}
theorem isCell_ty {K:PySem.W.Frag} {H:Hp} {θ:List Addr} {μ:Mem} {d:D} {v:V} (wk:WOk K H θ μ) (r:Rp K H θ μ d v) (h:isCell μ d=true):tyV K "list" v H:=by
 cases d with
 | loc n =>
  obtain ⟨a,rfl,ha⟩:=Zc r
  simp only [isCell] at h
  split at h
  ·rename_i ds hn
   obtain ⟨xs,hx,_⟩:=wk.list hn ha
   exact .inl ⟨rfl,xs,.of hx⟩
  ·cases h
 | _=>cases h
theorem le_meth {m:String} {wo:WE} {ws:WA} {σ:L2.St} {H:Hp} {Q:VK} (h:LE X.K (fun ρ μ Q=>wo ρ μ fun x μ1=>isCell μ1 x=true∧ws ρ μ1 fun ds μ2=>Zu m x ds μ2 Q) σ H Q):tBM X.K "list" (lowM X.K (Zu m)) (LE X.K wo) (LA X.K ws) σ H Q:=by
 obtain ⟨ρ,θ,μ,Qd,s,h,f⟩:=h
 refine ⟨ρ,θ,μ,_,s,h,fun x v H1 θ1 μ1 w1 g1 r1 h1=>⟨isCell_ty w1 r1 h1.1,ρ,θ1,μ1,_,s.grow w1 g1,h1.2,fun ds vs H2 θ2 μ2 w2 g2 r2 h2=>?_⟩⟩
 exact ⟨x,ds,θ2,μ2,Qd,w2,g2.rep r1,r2,h2,f.mono (g1.trans g2)⟩
theorem Xa9 {o:Expr} {m:Str} {env:Env} (h:baseB o=true) (hm:m=Str.ofString "append"∨m=Str.ofString "insert"):attributeBase o m env (eval o env)=eval o env:=by
 cases o with
 | Call f as ks p=>obtain ⟨x,q,a,r,rfl,rfl⟩:=Xah h; rfl
 | _=>first | rfl | exact (Bool.false_ne_true h).elim
theorem few_of {c:Ctx} {cpos:Pos} {as:Es} {e:Expr} {es:List Expr} (h:mEs c as (e :: es)=true) (h30:(e :: es).length < 30):((backTo cpos (starEach (e :: es) X.env)).all (fun x=>!x.1) && (backToKw cpos (keywordEach [] X.env)).all (fun x=>x.1.isSome)
   && decide ((e :: es).length + ([]:List Keyword).length + (if ([]:List Keyword).isEmpty then 0 else 1) < 30))=true:=by
 have h1:(backTo cpos (starEach (e :: es) X.env)).all (fun x=>!x.1)=true:=by
  have:=Zr (pos:=cpos) (env:=X.env) h
  rw [List.all_eq_not_any_not]
  simpa using this
 have h2:(backToKw cpos (keywordEach [] X.env)).all (fun x=>x.1.isSome)=true:=rfl
 rw [h1,h2]
 simpa using h30
noncomputable abbrev WO:=Rho→Mem→(Option Int→Mem→Prop)→Prop
noncomputable def LO (K:PySem.W.Frag) (w:WO):TO:=fun σ H Q=>∃ ρ θ μ Qd,Sim K σ H ρ θ μ∧w ρ μ Qd∧∀ (o:Option Int) (H':Hp) (θ':List Addr) (μ':Mem),WOk K H' θ' μ'→Grow H θ μ H' θ' μ'→Qd o μ'→Q o H'
theorem po_noneD:PO X none (LO X.K fun _ μ Q=>Q none μ):=fun pins s σ H Q I h=>by
 obtain ⟨ρ,θ,μ,Qd,sm,h,f⟩:=h
 exact po_none pins s σ H Q I (f none H θ μ sm.wok Grow.refl h)
theorem po_someD {a:Expr} {w:WE} (ha:PE X a (LE X.K w)):PO X (some a) (LO X.K fun ρ μ Q=>w ρ μ fun d μ1=>wInt d μ1 fun i μ2=>Q (some i) μ2):=fun pins s σ H Q I h=>by
 obtain ⟨ρ,θ,μ,Qd,sm,h,f⟩:=h
 refine po_some ha pins s σ H Q I ⟨ρ,θ,μ,_,sm,h,fun d v H1 θ1 μ1 w1 g1 r1 h1=>?_⟩
 cases d with
 | int i=>exact ⟨i,Zb r1,f (some i) H1 θ1 μ1 w1 g1 h1⟩
 | _=>exact h1.elim
theorem le_slc {m:Bool} {wa:WE} {wl wh:WO} {σ:L2.St} {H:Hp} {Q:VK} (h:LE X.K (fun ρ μ Q=>wa ρ μ fun x μ1=>wl ρ μ1 fun l μ2=>wh ρ μ2 fun h μ3=>wSlc m x l h μ3 Q) σ H Q) :
  tSl (lowSl X.K m) (LE X.K wa) (LO X.K wl) (LO X.K wh) σ H Q:=by
 obtain ⟨ρ,θ,μ,Qd,s,h,f⟩:=h
 refine ⟨ρ,θ,μ,_,s,h,fun x v H1 θ1 μ1 w1 g1 r1 h1=>⟨ρ,θ1,μ1,_,s.grow w1 g1,h1,fun l H2 θ2 μ2 w2 g2 h2=>⟨ρ,θ2,μ2,_,s.grow w2 (g1.trans g2),h2,fun o H3 θ3 μ3 w3 g3 h3=>?_⟩⟩⟩
 exact ⟨x,θ3,μ3,Qd,w3,(g2.trans g3).rep r1,h3,f.mono ((g1.trans g2).trans g3)⟩
noncomputable def isTup:Expr→Bool
 | .Tuple ..=>true
 | _=>false
theorem Wah {c:Ctx} {is:List Nat} {tt:Bool} {t:Expr} {it:It} (h:mTg c is tt t=true) (hz:Xaq tt it=true):Xaq (isTup t) it=true:=by
 cases it with
 | _=>rfl
theorem mI_set {c:Ctx} {it:It} {a:Expr} (h:mI c it a=true):Xl a=true:=by
 cases it with
 | seq e=>simp only [mI,Bool.and_eq_true] at h; exact h.2
 | _ =>
  obtain ⟨t,e,_⟩:=Wa h
  obtain ⟨p,q,rfl⟩:=Vj e
  rfl
theorem lt_chain {p q:CmpOp} {wa wb wc:WE} {σ:L2.St} {H:Hp} {Q:Bool→Hp→Prop}
  (h:LT X.K (fun ρ μ Q=>wa ρ μ fun x μ1=>wb ρ μ1 fun y μ2=>wCmp p x y μ2 fun r μ3=>wBl r μ3 fun t μ3=>if t=true then wc ρ μ3 fun z μ4=>wCmp q y z μ4 fun r μ5=>wBl r μ5 Q else Q false μ3) σ H Q) :
  tTest (Vbd (low2 X.K (wCmp p)) (low2 X.K (wCmp q)) (LE X.K wa) (LE X.K wb) (LE X.K wc)) σ H Q:=by
 obtain ⟨ρ,θ,μ,Qd,s,h,f⟩:=h
 refine le_chain (Q:=fun x H'=>∃ k,x = .bl k∧Q k H') ⟨ρ,θ,μ,fun r μ'=>wBl r μ' Qd,s,h,fun r v H1 θ1 μ1 w1 g1 r1 h1=>?_⟩
 cases r with
 | bl b=>exact ⟨b,Zi r1,f b H1 θ1 μ1 w1 g1 h1⟩
 | _=>exact h1.elim
theorem Zh {a:Expr} {t:TT} (h:∀ op vs pos,a≠.BoolOp op vs pos):∀ op vs pos,a = .BoolOp op vs pos→PW X a t:=fun op vs pos e=>absurd e (h op vs pos)
end
theorem Xn {c:Ctx} {as:Es} {e:Expr} {es:List Expr} (h:mEs c as (e :: es)=true):notStar e=true∧∃ es',mEs c es' es=true:=by
 cases as with
 | nil=>exact (Bool.false_ne_true h).elim
 | cons e' es' =>
  simp only [mEs,Bool.and_eq_true] at h
  exact ⟨h.1.2,es',h.2⟩
theorem pe_cstD {X:Cx} {k:Const} {j:Nat} {pos:Pos} {d:D} (h:mC k d=true):PE X (.Constant k j pos) (LE X.K (wE (.cst d))):=by
 cases k <;> cases d <;> simp only [mC,Bool.false_eq_true,Bool.and_eq_true,beq_iff_eq] at h
 ·exact PE.wk pe_non fun σ H Q q=>W5 (fun _ _ _=>Zbf) q
 ·subst h; exact PE.wk pe_bl fun σ H Q q=>W5 (fun _ _ _=>Wn) q
 ·subst h; exact PE.wk pe_int fun σ H Q q=>W5 (fun _ _ _=>Yc) q
 ·rename_i x y
  obtain ⟨h1,h2⟩:=h
  have h1:=of_decide_eq_true h1
  have h2:=of_decide_eq_true h2
  subst h1
  have e:x=⟨x.cps.toList.toArray⟩:=by simp
  refine PE.wk pe_str fun σ H Q q=>W5 (fun _ _ _=>?_) q
  rw [e]
  exact Z8 (by rw [sizeLine_eq]; exact h2)
theorem cmOr {c:Ctx} {it:It} {tt:Bool} (h:(c.calm || (Va4 it && !tt))=true):c.calm=true∨Va4 it=true:=by
 rcases Bool.or_eq_true_iff.mp h with h | h
 ·exact .inl h
 ·exact .inr (Bool.and_eq_true_iff.mp h).1
theorem cmTt {c:Ctx} {it:It} {tt:Bool} (h:(c.calm || (Va4 it && !tt))=true):tt=true→c.calm=true:=fun z=>by
 subst z
 simpa using h
mutual
theorem sE : ∀ (e : E) {X : Cx} {c : Ctx} {a : Expr}, CtxOk X c → mE c e a = true → okE (Y4 X) (Ws X) e → Snd X e a
  | .var i, X, c, a, C, h, _ => by
    have h : (opt (Wa3 a) fun x => c.at_ i x && c.vis x && !Zz x) = true := h
    obtain ⟨x, e, hh⟩ := Wa h
    obtain ⟨pos, rfl⟩ := X7 e
    have h := hh
    simp only [Bool.and_eq_true, Bool.not_eq_true'] at h
    obtain ⟨⟨h1, h2⟩, h3⟩ := h
    obtain ⟨o1, o2⟩ := Vy h3
    have pe : PE X (.Name x pos) (LE X.K (wE (.var i))) := PE.wk (pe_varD (by rw [C.N]; exact Yap h1) (C.vis x h2) o1 o2) fun σ H Q q => q
    refine ⟨pe, PT.wk (Xy pe fun _ => rfl) fun σ H Q q => ?_, Zh (fun _ _ _ z => by cases z)⟩
    obtain ⟨ρ, θ, μ, Qd, s, q, f⟩ := q
    refine ⟨ρ, θ, μ, Qd, s, ?_, f⟩
    simp only [wT] at q
    simp only [wE]
    split at q
    · exact q
    · exact q.elim
  | .cst d, X, c, a, C, h, _ => by
    have h : (opt (vConst a) fun k => mC k d) = true := h
    obtain ⟨k, e, hh⟩ := Wa h
    obtain ⟨j, pos, rfl⟩ := vConst_inv e
    have h := hh
    have pe := pe_cstD (X := X) (j := j) (pos := pos) h
    refine ⟨pe, PT.wk (Xy pe fun _ => rfl) fun σ H Q q => ?_, Zh (fun _ _ _ z => by cases z)⟩
    obtain ⟨ρ, θ, μ, Qd, s, q, f⟩ := q
    exact ⟨ρ, θ, μ, Qd, s, q, f⟩
  | .bin op l r, X, c, a, C, h, ok => by
    have h : (opt (vBin a) fun t => op == t.2.1 && mE c l t.1 && mE c r t.2.2) = true := h
    obtain ⟨⟨l', op', r'⟩, e, hh⟩ := Wa h
    obtain ⟨pos, rfl⟩ := Xbc e
    have h := hh
    simp only [Bool.and_eq_true, beq_iff_eq] at h
    obtain ⟨⟨rfl, h1⟩, h2⟩ := h
    exact ⟨PE.wk (pe_op (bin_ok op) (sE l C h1 ok.1).pe (sE r C h2 ok.2).pe) fun σ H Q q => Zaa q, Vc, Zh (fun _ _ _ z => by cases z)⟩
  | .neg l, X, c, a, C, h, ok => by
    have h : (opt (vNeg a) fun t => mE c l t) = true := h
    obtain ⟨l', e, hh⟩ := Wa h
    obtain ⟨pos, rfl⟩ := vNeg_inv e
    have h := hh
    have S1 := sE l C h ok
    refine ⟨PE.wk (pe_un un_neg S1.pe) fun σ H Q q => ?_, Vc, Zh (fun _ _ _ z => by cases z)⟩
    obtain ⟨ρ, θ, μ, Qd, s, q, f⟩ := q
    refine ⟨ρ, θ, μ, _, s, q, fun x v H1 θ1 μ1 w1 g1 r1 h1 => ?_⟩
    cases x with
    | int i => exact ⟨i, Zb r1, (f.mono g1).at w1 Yc h1⟩
    | _ => exact h1.elim
  | .not l, X, c, a, C, h, ok => by
    have h : (opt (vNot a) fun t => mE c l t) = true := h
    obtain ⟨l', e, hh⟩ := Wa h
    obtain ⟨pos, rfl⟩ := vNot_inv e
    have h := hh
    have S1 := sE l C h ok
    refine ⟨PE.wk (pe_not S1.pe) fun σ H Q q => ?_, PT.wk (pt_not S1.pt) fun σ H Q q => ?_, Zh (fun _ _ _ z => by cases z)⟩
    · obtain ⟨ρ, θ, μ, Qd, s, q, f⟩ := q
      refine ⟨ρ, θ, μ, _, s, q, fun x v H1 θ1 μ1 w1 g1 r1 h1 => ?_⟩
      cases x with
      | bl b => exact ⟨b, Zi r1, (f.mono g1).at w1 Wn h1⟩
      | _ => exact h1.elim
    · obtain ⟨ρ, θ, μ, Qd, s, q, f⟩ := q
      exact ⟨ρ, θ, μ, _, s, q, fun b H1 θ1 μ1 w1 g1 h1 => f (!b) H1 θ1 μ1 w1 g1 h1⟩
  | .cmp op l r, X, c, a, C, h, ok => by
    have h : (opt (vCmp a) fun t => op == t.2.1 && mE c l t.1 && mE c r t.2.2 && Xl t.2.2) = true := h
    obtain ⟨⟨l', op', r'⟩, e, hh⟩ := Wa h
    obtain ⟨pos, rfl⟩ := Ybc e
    have h := hh
    simp only [Bool.and_eq_true, beq_iff_eq] at h
    obtain ⟨⟨⟨rfl, h1⟩, h2⟩, h3⟩ := h
    have S1 := sE l C h1 ok.1
    have S2 := sE r C h2 ok.2
    obtain ⟨k, hr⟩ := C.room
    exact ⟨PE.wk (pe_cmpR (Zah hr op) S1.pe S2.pe (Yau h3)) fun σ H Q q => Zaa q, PT.wk (pt_cmpR (Zah hr op) S1.pe S2.pe (Yau h3)) fun σ H Q q => lt_bl (w := wE (.cmp op l r)) (fun _ _ _ z => Zaa z) q, Zh (fun _ _ _ z => by cases z)⟩
  | .cmpX l r n, X, c, a, C, h, ok => by
    have h : (opt (vCmp a) fun t => (t.2.1 == (if n then CmpOp.NotEq else CmpOp.Eq)) && mE c l t.1 && mE c r t.2.2 && Xl t.2.2) = true := h
    obtain ⟨⟨l', op', r'⟩, e, hh⟩ := Wa h
    obtain ⟨pos, rfl⟩ := Ybc e
    have h := hh
    simp only [Bool.and_eq_true, beq_iff_eq] at h
    obtain ⟨⟨⟨rfl, h1⟩, h2⟩, h3⟩ := h
    have S1 := sE l C h1 ok.1
    have S2 := sE r C h2 ok.2
    obtain ⟨k, hr⟩ := C.room
    cases n with
    | false => exact ⟨fun pins s σ H Q I h => (by obtain ⟨_, _, _, _, _, z, _⟩ := h; exact z.elim), Vc, Zh (fun _ _ _ z => by cases z)⟩
    | true => exact ⟨PE.wk (pe_cmpR (neX_ok hr) S1.pe S2.pe (Yau h3)) fun σ H Q q => Zaa q, PT.wk (pt_cmpR (neX_ok hr) S1.pe S2.pe (Yau h3)) fun σ H Q q => lt_bl (w := wE (.cmpX l r true)) (fun _ _ _ z => Zaa z) q, Zh (fun _ _ _ z => by cases z)⟩
  | .chain p q l m r, X, c, a, C, h, ok => by
    have h : (opt (vCmp2 a) fun t => p == t.2.1 && q == t.2.2.1 && mE c l t.1 && mE c m t.2.2.2.1 && mE c r t.2.2.2.2 && Xl t.2.2.2.2 && Xl t.2.2.2.1) = true := h
    obtain ⟨⟨l', p', q', m', r'⟩, e, hh⟩ := Wa h
    obtain ⟨pos, rfl⟩ := vCmp2_inv e
    have h := hh
    simp only [Bool.and_eq_true, beq_iff_eq] at h
    obtain ⟨⟨⟨⟨⟨⟨rfl, rfl⟩, h1⟩, h2⟩, h3⟩, h4⟩, h5⟩ := h
    have S1 := sE l C h1 ok.1
    have S2 := sE m C h2 ok.2.1
    have S3 := sE r C h3 ok.2.2
    obtain ⟨k, hr⟩ := C.room
    have hm : lastMarks [p, q] [m', r'] = false := by
      show behindInMarks q r' = false
      exact Yau h4
    exact ⟨PE.wk (pe_chain (Zah hr p) (Zah hr q) S1.pe S2.pe S3.pe hm) fun σ H Q z => le_chain z, PT.wk (pt_chain (Zah hr p) (Zah hr q) S1.pe S2.pe S3.pe hm) fun σ H Q z => lt_chain z, Zh (fun _ _ _ z => by cases z)⟩
  | .and x y, X, c, a, C, h, ok => by
    have h : (opt (vAnd a) fun t => mE c x t.1 && mE c y t.2) = true := h
    obtain ⟨⟨v, y'⟩, e, h⟩ := Wa h
    simp only [Bool.and_eq_true] at h
    have S1 := sE x C h.1 ok.1
    have S2 := sE y C h.2 ok.2
    rcases vAnd_inv e with ⟨pos, rfl⟩ | ⟨w, z, rest, pos, rfl, rfl⟩
    · have pw : PW X (.BoolOp .And [v, y'] pos) (LT X.K (wT (.and x y))) := PW.wk (pw_and S1.pt (pw_and1 S2.pt)) fun σ H Q q => lt_and q
      exact ⟨PE.wk (pe_and S1.pe (pe_one S2.pe)) fun σ H Q q => le_and q, pw.pt, fun _ _ _ _ => pw⟩
    · have pw : PW X (.BoolOp .And (v :: w :: z :: rest) pos) (LT X.K (wT (.and x y))) := PW.wk (pw_and S1.pt (S2.pw _ _ _ rfl)) fun σ H Q q => lt_and q
      exact ⟨PE.wk (pe_and S1.pe S2.pe) fun σ H Q q => le_and q, pw.pt, fun _ _ _ _ => pw⟩
  | .or x y, X, c, a, C, h, ok => by
    have h : (opt (vOr a) fun t => mE c x t.1 && mE c y t.2) = true := h
    obtain ⟨⟨v, y'⟩, e, h⟩ := Wa h
    simp only [Bool.and_eq_true] at h
    have S1 := sE x C h.1 ok.1
    have S2 := sE y C h.2 ok.2
    rcases vOr_inv e with ⟨pos, rfl⟩ | ⟨w, z, rest, pos, rfl, rfl⟩
    · have pw : PW X (.BoolOp .Or [v, y'] pos) (LT X.K (wT (.or x y))) := PW.wk (pw_or S1.pt (pw_or1 S2.pt)) fun σ H Q q => lt_or q
      exact ⟨PE.wk (pe_or S1.pe (pe_one S2.pe)) fun σ H Q q => le_or q, pw.pt, fun _ _ _ _ => pw⟩
    · have pw : PW X (.BoolOp .Or (v :: w :: z :: rest) pos) (LT X.K (wT (.or x y))) := PW.wk (pw_or S1.pt (S2.pw _ _ _ rfl)) fun σ H Q q => lt_or q
      exact ⟨PE.wk (pe_or S1.pe S2.pe) fun σ H Q q => le_or q, pw.pt, fun _ _ _ _ => pw⟩
  | .call x sp as, X, c, a, C, h, ok => by
    have h : (opt (Vx a) fun t => x == t.1 && c.glb x && !Zz x && mEs c as t.2) = true := h
    obtain ⟨⟨y, args⟩, e, hh⟩ := Wa h
    obtain ⟨p, pos, rfl⟩ := Vj e
    have h := hh
    simp only [Bool.and_eq_true, Bool.not_eq_true', beq_iff_eq] at h
    obtain ⟨⟨⟨rfl, h1⟩, h2⟩, h3⟩ := h
    have pe : PE X (.Call (.Name x p) args [] pos) (LE X.K (wE (.call x sp as))) := by
      cases args with
      | nil =>
        cases as with
        | nil => exact PE.wk (pe_call0D ok.1 (C.glb x h1) (Vy h2).1) fun σ H Q q => q
        | cons e es => exact (Bool.false_ne_true h3).elim
      | cons e es =>
        obtain ⟨hst, es', hes⟩ := Xn h3
        exact PE.wk (pe_callD ok.1 (C.glb x h1) (sEs as C h3 ok.2) (Vy h2).1 (Xg hst) (Zr hes)) fun σ H Q q => q
    exact ⟨pe, PT.wk (Xy pe fun _ => rfl) fun σ H Q q => q, Zh (fun _ _ _ z => by cases z)⟩
  | .blt x as, X, c, a, C, h, ok => by
    have h : (opt (Vx a) fun t => c.calm && knownB.contains x && bname x == t.1 && Xf c t.1 && mEs c as t.2 && !t.2.isEmpty) = true := h
    obtain ⟨⟨y, args⟩, e, hh⟩ := Wa h
    obtain ⟨p, pos, rfl⟩ := Vj e
    have h := hh
    simp only [Bool.and_eq_true, Bool.not_eq_true', beq_iff_eq, Xf] at h
    obtain ⟨⟨⟨⟨⟨hc, h0⟩, h1⟩, h2, h3⟩, h4⟩, h5⟩ := h
    cases args with
    | nil => simp at h5
    | cons a1 es =>
      obtain ⟨hst, es', hes⟩ := Xn h4
      have pe : PE X (.Call (.Name y p) (a1 :: es) [] pos) (LE X.K (wE (.blt x as))) := PE.wk (pe_bltD (as := []) (by simpa using h0) h1.symm (C.calm hc) (C.room) (C.glb y h2) (C.blt y h3) (sEs as C h4 ok) (Xg hst) (Zr hes)) fun σ H Q q => q
      exact ⟨pe, PT.wk (Xy pe fun _ => rfl) fun σ H Q q => q, Zh (fun _ _ _ z => by cases z)⟩
  | .bltD x l r, X, c, a, C, h, ok => by
    have h : ((opt (vCallK a) fun t => c.calm && x == "max" && t.1 == Str.ofString "max" && Xf c t.1 && mE c l t.2.1 && notStar t.2.1 && (t.2.2.arg == some (Str.ofString "default")) && mE c r t.2.2.value) || (opt (Zbc a) fun t => (x == "{}" || x == "{t}") && mE c l t.1 && mE c r t.2)) = true := h
    rw [Bool.or_eq_true] at h
    rcases h with h | h
    rotate_left
    · obtain ⟨⟨k', v'⟩, e, hh⟩ := Wa h
      obtain ⟨p, rfl⟩ := vDict1_inv e
      simp only [Bool.and_eq_true, beq_iff_eq, Bool.or_eq_true] at hh
      obtain ⟨⟨rfl | rfl, h1⟩, h2⟩ := hh
      · exact ⟨PE.wk (pe_dd1 (sE l C h1 ok.1).pe (sE r C h2 ok.2).pe) fun σ H Q q => q, Vc, Zh (fun _ _ _ z => by cases z)⟩
      · exact ⟨PE.wk (pe_ddT (by obtain ⟨k, hr⟩ := C.room; have := hr.units; omega) (sE l C h1 ok.1).pe (sE r C h2 ok.2).pe) fun σ H Q q => q, Vc, Zh (fun _ _ _ z => by cases z)⟩
    obtain ⟨⟨y, l', k⟩, e, hh⟩ := Wa h
    obtain ⟨p, pos, rfl⟩ := vCallK_inv e
    have h := hh
    obtain ⟨nm, b, kpos⟩ := k
    simp only [Bool.and_eq_true, beq_iff_eq, Xf] at h
    obtain ⟨⟨⟨⟨⟨⟨⟨hc, rfl⟩, h0⟩, h1, h2⟩, h3⟩, h4⟩, h5⟩, h6⟩ := h
    exact ⟨PE.wk (pe_bltKD h0 h5 (C.calm hc) (C.glb y h1) (C.blt y h2) (sE l C h3 ok.1).pe (sE r C h6 ok.2).pe (Xg h4)) fun σ H Q q => q, Vc, Zh (fun _ _ _ z => by cases z)⟩
  | .isin l t, X, c, a, C, h, ok => by
    have h : (opt (Vx a) fun q => opt (vTwo q.2) fun w => opt (Wa3 w.2) fun z => (q.1 == Str.ofString "isinstance") && Xf c q.1 && ["int", "bool", "str", "tuple", "list", "dict"].contains t && (z == Str.ofString t) && Xf c z && mE c l w.1 && notStar w.1) = true := h
    obtain ⟨⟨y, args⟩, e, hh⟩ := Wa h
    obtain ⟨p, pos, rfl⟩ := Vj e
    have h := hh
    obtain ⟨⟨l', zz⟩, e2, hh⟩ := Wa h
    obtain rfl := vTwo_inv e2
    have h := hh
    obtain ⟨z, e3, h⟩ := Wa h
    obtain ⟨p2, e4⟩ := X7 e3
    simp only at e4
    subst e4
    simp only [Bool.and_eq_true, beq_iff_eq, Xf] at h
    obtain ⟨⟨⟨⟨⟨⟨h0, h1, h2⟩, h3⟩, h4⟩, h5, h6⟩, h7⟩, h8⟩ := h
    have pe : PE X (.Call (.Name y p) [l', .Name z p2] [] pos) (LE X.K (wE (.isin l t))) := PE.wk (pe_isinD (sE l C h7 ok).pe h0 (by simpa using h3) h4 (C.glb y h1) (C.glb z h5) (C.blt y h2) (C.blt z h6) (Xg h8)) fun σ H Q q => q
    refine ⟨pe, PT.wk (Xy pe fun _ => rfl) fun σ H Q q => ?_, Zh (fun _ _ _ z => by cases z)⟩
    obtain ⟨ρ, θ, μ, Qd, s, q, f⟩ := q
    refine ⟨ρ, θ, μ, _, s, q, fun r H1 θ1 μ1 w1 g1 h1 => f r H1 θ1 μ1 w1 g1 h1⟩
  | .meth m o as, X, c, a, C, h, ok => by
    have h : (opt (vMeth a) fun t => (if t.2.2.1.isEmpty then false else ["append", "extend"].contains m) && t.2.1 == Str.ofString m && baseB t.1 && t.2.2.2 && mE c o t.1 && mEs c as t.2.2.1 && decide (t.2.2.1.length < 30)) = true := h
    obtain ⟨⟨o', m', args, ln⟩, e, hh⟩ := Wa h
    obtain ⟨apos, pos, rfl, e2⟩ := vMeth_inv e
    have h := hh
    simp only [Bool.and_eq_true, beq_iff_eq] at h
    obtain ⟨⟨⟨⟨⟨⟨h0, h2⟩, h3⟩, h4⟩, h5⟩, h6⟩, h7⟩ := h
    have hline : (apos.endLine == pos.line) = true := by rw [← e2]; exact h4
    refine ⟨?_, Vc, Zh (fun _ _ _ z => by cases z)⟩
    subst h2
    cases args with
    | nil =>
      have : as = .nil := by
        cases as with
        | nil => rfl
        | cons e es => exact (Bool.false_ne_true h6).elim
      subst this
      simp at h0
    | cons e es =>
      obtain ⟨hst, es', hes⟩ := Xn h6
      have h0' : m = "append" ∨ m = "extend" := by simpa using h0
      have h7' := of_decide_eq_true h7
      rcases h0' with rfl | rfl
      · exact PE.wk (pe_bm PySem.F.plainAttrs_list PySem.F.slot_list_append PySem.F.type_list_append Xa6 (sE o C h5 ok.1).pe (sEs as C h6 ok.2) (anyBase h3) (few_of h6 h7') hline (Xg hst) (Zr hes)) fun σ H Q q => le_meth q
      · exact PE.wk (pe_bm PySem.F.plainAttrs_list PySem.F.slot_list_extend PySem.F.type_list_extend Ya6 (sE o C h5 ok.1).pe (sEs as C h6 ok.2) (anyBase h3) (few_of h6 h7') hline (Xg hst) (Zr hes)) fun σ H Q q => le_meth q
  | .cat m l r, X, c, a, C, h, ok => by
    have h : (opt (vBin a) fun t => t.2.1 == .Add && mE c l t.1 && mE c r t.2.2) = true := h
    obtain ⟨⟨l', op', r'⟩, e, hh⟩ := Wa h
    obtain ⟨pos, rfl⟩ := Xbc e
    have h := hh
    simp only [Bool.and_eq_true, beq_iff_eq] at h
    obtain ⟨⟨rfl, h1⟩, h2⟩ := h
    exact ⟨PE.wk (pe_op (cat_ok m) (sE l C h1 ok.1).pe (sE r C h2 ok.2).pe) fun σ H Q q => Zaa q, Vc, Zh (fun _ _ _ z => by cases z)⟩
  | .idx x y, X, c, a, C, h, ok => by
    have h : (opt (vSub a) fun t => mE c x t.1 && mE c y t.2 && Vg t.2) = true := h
    obtain ⟨⟨x', y'⟩, e, hh⟩ := Wa h
    obtain ⟨pos, rfl⟩ := W4 e
    have h := hh
    simp only [Bool.and_eq_true] at h
    have pe : PE X (.Subscript x' y' pos) (LE X.K (wE (.idx x y))) := PE.wk (pe_ix idx_ok (sE x C h.1.1 ok.1).pe (sE y C h.1.2 ok.2).pe (plainIx_of h.2)) fun σ H Q q => Zaa q
    exact ⟨pe, PT.wk (Xy pe fun _ => rfl) fun σ H Q q => q, Zh (fun _ _ _ z => by cases z)⟩
  | .slc m x lo hi, X, c, a, C, h, ok => by
    have h : (opt (vSlc a) fun t => mE c x t.1 && mO c lo t.2.1 && mO c hi t.2.2) = true := h
    obtain ⟨⟨x', lo', hi'⟩, e, hh⟩ := Wa h
    obtain ⟨p2, pos, rfl⟩ := vSlc_inv e
    have h := hh
    simp only [Bool.and_eq_true] at h
    exact ⟨PE.wk (pe_slice (slc_ok m) (sE x C h.1.1 ok.1).pe (sO lo C h.1.2 ok.2.1) (sO hi C h.2 ok.2.2)) fun σ H Q q => le_slc q, Vc, Zh (fun _ _ _ z => by cases z)⟩
  | .tup as, X, c, a, C, h, ok => by
    have h : (opt (vTup a) fun es => mEs c as es && decide (es.length ≤ 16777216)) = true := h
    obtain ⟨es, e, hh⟩ := Wa h
    obtain ⟨k, pos, rfl⟩ := Wbb e
    have h := hh
    simp only [Bool.and_eq_true] at h
    refine ⟨PE.wk (pe_tup (sEs as C h.1 ok)) fun σ H Q q => ?_, Vc, Zh (fun _ _ _ z => by cases z)⟩
    obtain ⟨ρ, θ, μ, Qd, s, q, f⟩ := q
    refine ⟨ρ, θ, μ, _, s, q, fun ds vs H1 θ1 μ1 w1 g1 r1 h1 => ⟨?_, fun p hp => Yz w1 (f.mono g1) r1 h1.2 hp⟩⟩
    rw [← r1.length, ← Xv]; exact h1.1
  | .lst m as, X, c, a, C, h, ok => by
    have h : (opt (vLst a) fun es => mEs c as es && decide (es.length ≤ 16777216)) = true := h
    obtain ⟨es, e, hh⟩ := Wa h
    obtain ⟨pos, rfl⟩ := vLst_inv e
    have h := hh
    simp only [Bool.and_eq_true] at h
    refine ⟨PE.wk (pe_lst (sEs as C h.1 ok)) fun σ H Q q => ?_, Vc, Zh (fun _ _ _ z => by cases z)⟩
    obtain ⟨ρ, θ, μ, Qd, s, q, f⟩ := q
    refine ⟨ρ, θ, μ, _, s, q, fun ds vs H1 θ1 μ1 w1 g1 r1 h1 => ⟨?_, fun p hp => Yp w1 (f.mono g1) r1 h1.2 hp⟩⟩
    rw [← r1.length, ← Xv]; exact h1.1
  | .dsp ks as, X, c, a, C, h, ok => by
    replace h : mDsp ks as a = true := h
    unfold mDsp at h
    split at h
    · rename_i k i k' j jj jp pos
      simp only [Bool.and_eq_true, beq_iff_eq] at h
      obtain ⟨h1, rfl⟩ := h
      have hk : ∃ ke, k' = some ke ∧ PE X ke (tC (kV (keyOf k))) := by
        unfold keyC at h1
        split at h1
        · have e := eq_of_beq h1
          subst e
          exact ⟨_, rfl, pe_int⟩
        · rename_i st x _ _
          have e := of_decide_eq_true h1
          subst e
          refine ⟨_, rfl, ?_⟩
          have e2 : keyOf (.inr st.cps.toList) = .inr st := by simp [keyOf]
          rw [e2]
          exact pe_str
        · cases h1
      obtain ⟨ke, rfl, hk⟩ := hk
      refine ⟨PE.wk (pe_dict1 hk pe_int) fun σ H Q q => ?_, Vc, Zh (fun _ _ _ z => by cases z)⟩
      obtain ⟨ρ, θ, μ, Qd, s, q, f⟩ := q
      exact fun p hp => new_dict s.wok f q.2 hp
    · cases h
  | .comp m n tt cap elt it cond, X, c, a, C, h, ok => by
    have h : (opt (vComp a) fun t => (c.calm || (Va4 it && !tt)) && opt (Wai tt t.2.1) fun xs => opt (Zm c cap) fun cs => n == xs.length && Xa8 c t.2.2.2.2 (xs ++ cs) cs && Xaq tt it && mI c it t.2.2.1 && mTg (c.in_ (xs ++ cs) t.2.2.2.2.names) (List.range n) tt t.2.1 && mE (c.in_ (xs ++ cs) t.2.2.2.2.names) elt t.1 && mEs (c.in_ (xs ++ cs) t.2.2.2.2.names) cond t.2.2.2.1 && decide (t.2.2.2.1.length ≤ 1)) = true := h
    obtain ⟨⟨elt', tg, iter, ifs, scope⟩, e, hh⟩ := Wa h
    obtain ⟨pos, rfl⟩ := Var e
    have h := hh
    simp only [Bool.and_eq_true] at h
    obtain ⟨hcm, h⟩ := h
    obtain ⟨xs, hxs, h⟩ := Wa h
    obtain ⟨cs, hcs, h⟩ := Wa h
    simp only [Bool.and_eq_true, beq_iff_eq] at h
    obtain ⟨⟨⟨⟨⟨⟨⟨hn, h1⟩, hz⟩, h2⟩, hg⟩, h3⟩, h4⟩, h5⟩ := h
    have h5 := of_decide_eq_true h5
    subst hn
    exact ⟨PE.wk (pe_comp (Vag C hcs h1) (sI it C h2 ok.2.1 (Wah hg hz) (cmOr hcm)) (fun cl Ca s H ex => pg_of (Vq C h1 cl Ca s H ex) (cmTt hcm) hg) (fun cl Ca s H ex => sTs cond (Vq C h1 cl Ca s H ex) h4 h5 ok.2.2) (fun cl Ca s H ex => (sE elt (Vq C h1 cl Ca s H ex) h3 ok.1).pe) (Xab (mI_set h2))) fun σ H Q q => le_comp (tgn hxs) q, Vc, Zh (fun _ _ _ z => by cases z)⟩
  | .frz x, X, c, a, C, h, ok => by
    have S := sE x C h ok
    exact ⟨PE.wk (pe_frzD S.pe) fun σ H Q q => q, Vc, fun op vs pos e => fun wh pins s σ H Q I q => by obtain ⟨_, _, _, _, _, q, _⟩ := q; exact q.elim⟩
  | .dnew t, X, c, a, C, h, ok => by
    obtain ⟨p, rfl⟩ := vDict0_inv h
    exact ⟨PE.wk (pe_dnewD (t := t)) fun σ H Q q => q, Vc, Zh (fun _ _ _ z => by cases z)⟩
  | .lrng m x rr, X, c, a, C, h, ok => by
    have h : (opt (Vx a) fun t => opt (vOne t.2) fun r => opt (Vx r) fun u => opt (vOne u.2) fun z => c.calm && (t.1 == Str.ofString (lrN m)) && Xf c t.1 && (u.1 == Str.ofString (lrM rr)) && Xf c u.1 && notStar r && mE c x z && notStar z) = true := h
    obtain ⟨⟨y, args⟩, e, hh⟩ := Wa h
    obtain ⟨p, pos, rfl⟩ := Vj e
    obtain ⟨r, e2, h2⟩ := Wa hh
    cases Vbb e2
    obtain ⟨⟨y2, args2⟩, e3, h3⟩ := Wa h2
    obtain ⟨p2, pos2, rfl⟩ := Vj e3
    obtain ⟨z, e4, h4⟩ := Wa h3
    cases Vbb e4
    simp only [Bool.and_eq_true, beq_iff_eq, Xf] at h4
    obtain ⟨⟨⟨⟨⟨⟨⟨hc, k0⟩, k1, k2⟩, k3⟩, k4, k5⟩, k6⟩, k7⟩, k8⟩ := h4
    cases rr with
    | false => exact ⟨fun pins s σ H Q I h => (by obtain ⟨_, _, _, _, _, z, _⟩ := h; exact z.elim), Vc, Zh (fun _ _ _ z => by cases z)⟩
    | true =>
     cases m with
     | some m => exact ⟨PE.wk (pe_lrev (m := m) (C.calm hc) k0 k3 (C.glb y k1) (C.blt y k2) (C.glb y2 k4) (C.blt y2 k5) (sE x C k7 ok).pe (by rw [Xg k8]; rfl) (by rw [Xg k6]; rfl)) fun σ H Q q => q, Vc, Zh (fun _ _ _ z => by cases z)⟩
     | none => exact ⟨PE.wk (pe_trev (C.calm hc) k0 k3 (C.glb y k1) (C.blt y k2) (C.glb y2 k4) (C.blt y2 k5) (sE x C k7 ok).pe (by rw [Xg k8]; rfl) (by rw [Xg k6]; rfl)) fun σ H Q q => q, Vc, Zh (fun _ _ _ z => by cases z)⟩
theorem sEs:∀ (es:Es) {X:Cx} {c:Ctx} {as:List Expr},CtxOk X c→mEs c es as=true→okEs (Y4 X) (Ws X) es→PA X as (LA X.K (wEs es))
 | .nil,X,c,as,C,h,_=>by
  have:as=[]:=by simpa [mEs] using h
  subst this
  exact PA.wk pa_nilD fun σ H Q q=>q
 | .cons e es,X,c,as,C,h,ok=>by
  cases as with
  | nil=>simp [mEs] at h
  | cons a as =>
   simp only [mEs,Bool.and_eq_true] at h
   exact PA.wk (pa_consD (sE e C h.1.1 ok.1).pe (sEs es C h.2 ok.2) (Xg h.1.2)) fun σ H Q q=>q
theorem sO:∀ (es:Es) {X:Cx} {c:Ctx} {a:Option Expr},CtxOk X c→mO c es a=true→okEs (Y4 X) (Ws X) es→PO X a (LO X.K (wO es))
 | .nil,X,c,a,C,h,_=>by
  cases a with
  | none=>exact fun pins s σ H Q I q=>po_noneD pins s σ H Q I q
  | some _=>simp [mO] at h
 | .cons e es,X,c,a,C,h,ok=>by
  cases a with
  | none=>simp [mO] at h
  | some a =>
   cases es with
   | nil=>exact fun pins s σ H Q I q=>po_someD (sE e C (by simpa [mO] using h) ok.1).pe pins s σ H Q I q
   | cons _ _=>simp [mO] at h
theorem sTs:∀ (es:Es) {X:Cx} {c:Ctx} {as:List Expr},CtxOk X c→mEs c es as=true→as.length≤1→okEs (Y4 X) (Ws X) es→PIf X as (LT X.K (wTs es))
 | .nil,X,c,as,C,h,_,_=>by
  have:as=[]:=by simpa [mEs] using h
  subst this
  intro pins s σ H Q I q
  obtain ⟨ρ,θ,μ,Qd,sm,q,f⟩:=q
  exact pif_nil pins s σ H Q I (f true H θ μ sm.wok Grow.refl q)
 | .cons e es,X,c,as,C,h,hl,ok=>by
  cases as with
  | nil=>simp [mEs] at h
  | cons a as =>
   simp only [mEs,Bool.and_eq_true] at h
   have:as=[]:=by
    cases as with
    | nil=>rfl
    | cons _ _=>simp at hl
   subst this
   have:es = .nil:=by
    cases es with
    | nil=>rfl
    | cons _ _=>simp [mEs] at h
   subst this
   have S:=sE e C h.1.1 ok.1
   intro pins s σ H Q I q
   refine pif_one S.pt pins s σ H Q I ?_
   obtain ⟨ρ,θ,μ,Qd,sm,q,f⟩:=q
   exact ⟨ρ,θ,μ,Qd,sm,q,f⟩
theorem sI:∀ (it:It) {X:Cx} {c:Ctx} {a tg:Expr},CtxOk X c→mI c it a=true→okI (Y4 X) (Ws X) it→Xaq (isTup tg) it=true→(c.calm=true∨Va4 it=true)→PI X tg a (LI X.K (wI it))
 | .seq e,X,c,a,tg,C,h,ok,_,hcm=>by
  simp only [mI,Bool.and_eq_true] at h
  exact fun pins s σ H R I q=>pi_seqD (C.calm (hcm.resolve_right Bool.false_ne_true)) (sE e C h.1 ok).pe pins s σ H R I q
 | .rng as,X,c,a,tg,C,h,ok,_,hcm=>by
  have h:(opt (Vx a) fun t=>(t.1 == Str.ofString "range") && Xf c t.1 && mEs c as t.2 && (t.2.length == 1 || t.2.length == 2))=true:=h
  obtain ⟨⟨y,args⟩,e,hh⟩:=Wa h
  obtain ⟨p,pos,rfl⟩:=Vj e
  have h:=hh
  simp only [Bool.and_eq_true,Bool.or_eq_true,beq_iff_eq,Xf] at h
  obtain ⟨⟨⟨h0,h1,h2⟩,h3⟩,h4⟩:=h
  have hA:=sEs as C h3 ok
  have hl:=esLen_eq h3
  match args,h3,h4,hA,hl with
  | [a1],h3,_,hA,hl =>
   have k1:=(Xn h3).1
   exact fun pins s σ H R I q=>pi_rng1D h0 (C.glb y h1) (C.blt y h2) hA (by rw [Xg k1]; rfl) pins s σ H R I (by simp only [wI,hl] at q; exact q)
  | [a1,a2],h3,_,hA,hl =>
   obtain ⟨k1,es2,hes⟩:=Xn h3
   have k2:=(Xn hes).1
   exact fun pins s σ H R I q=>pi_rng2D h0 (C.glb y h1) (C.blt y h2) hA (by rw [Xg k1,Xg k2]; rfl) (by rw [Xg k2]; rfl) pins s σ H R I (by simp only [wI,hl] at q; exact q)
  | [],_,h4,_,_=>simp at h4
  | _ :: _ :: _ :: _,_,h4,_,_=>simp at h4
end
end DW
end
section
set_option autoImplicit false
set_option maxHeartbeats 4000000
namespace DW
open PySem PySem.Spec PyProof.Rows L2
theorem Zbe {t e:Expr} {n:Nat} {env:Env} (h:Yh e=true):swapsWithSole [t] e n env=pure false:=Vai h
theorem assign_sub {o i:Expr} {pos:Pos} {env:Env} (h:Vg i=true):∀ v,assign (.Subscript o i pos) env v=(do
   let ov ← holding [v] (eval o env)
   let iv ← holding [v,ov] (eval i env)
   standAt pos
   holding [v,ov,iv] (setItem ov iv v)
   release [v,ov,iv] []):=by
 intro v
 cases i <;> first | rfl | exact (Bool.false_ne_true h).elim
section
variable {X:Cx} {EX:L2.St→XK}
theorem ls_set {i:Nat} {we:WE} {D:Ends} {σ:L2.St} {H:Hp} (h:LS X.K EX (fun Z ρ μ=>we ρ μ fun d μ1=>Z.nx (ρ.set i (some d)) μ1) D σ H):tAsg (LE X.K we) (gName i) D σ H:=by
 obtain ⟨ρ,θ,μ,Z,s,h,f⟩:=h
 exact ⟨ρ,θ,μ,_,s,h,fun d v H1 θ1 μ1 w1 g1 r1 h1=>f.nx _ H1 _ θ1 μ1 ((s.grow w1 g1).set r1 i) g1 h1⟩
theorem ls_asg {bnd:D→Rho→(Rho→Prop)→Prop} {we:WE} {D:Ends} {σ:L2.St} {H:Hp} (h:LS X.K EX (fun Z ρ μ=>we ρ μ fun d μ1=>bnd d ρ fun ρ'=>Z.nx ρ' μ1) D σ H):tAsg (LE X.K we) (LG X.K bnd) D σ H:=by
 obtain ⟨ρ,θ,μ,Z,s,h,f⟩:=h
 exact ⟨ρ,θ,μ,_,s,h,fun d v H1 θ1 μ1 w1 g1 r1 h1=>⟨d,ρ,θ1,μ1,_,s.grow w1 g1,r1,h1,fun σ' ρ' s' q=>f.nx σ' H1 ρ' θ1 μ1 s' g1 q⟩⟩
theorem ls_setIx {wo wi we:WE} {D:Ends} {σ:L2.St} {H:Hp} (h:LS X.K EX (fun Z ρ μ=>we ρ μ fun v μ1=>wo ρ μ1 fun x μ2=>wi ρ μ2 fun y μ3=>Wo x y v μ3 fun μ4=>Z.nx ρ μ4) D σ H) :
  tAsg (LE X.K we) (gSub (LE X.K wo) (LE X.K wi) (fun o i v H Q=>∃ x y z θ μ k,WOk X.K H θ μ∧Rp X.K H θ μ x o∧Rp X.K H θ μ y i∧Rp X.K H θ μ z v∧Wo x y z μ k∧∀ H' μ',WOk X.K H' θ μ'→Grow H θ μ H' θ μ'→k μ'→Q H')) D σ H:=by
 obtain ⟨ρ,θ,μ,Z,s,h,f⟩:=h
 refine ⟨ρ,θ,μ,_,s,h,fun d v H1 θ1 μ1 w1 g1 r1 h1=>⟨ρ,θ1,μ1,_,s.grow w1 g1,h1,fun x vx H2 θ2 μ2 w2 g2 r2 h2=>⟨ρ,θ2,μ2,_,s.grow w2 (g1.trans g2),h2,fun y vy H3 θ3 μ3 w3 g3 r3 h3=>?_⟩⟩⟩
 exact ⟨x,y,d,θ3,μ3,_,w3,g3.rep r2,r3,(g2.trans g3).rep r1,h3,fun H4 μ4 w4 g4 q=>f.nx σ H4 ρ θ3 μ4 (s.grow w4 (((g1.trans g2).trans g3).trans g4)) (((g1.trans g2).trans g3).trans g4) q⟩
theorem Yat {tg v:Expr} {env:Env} (h:V8 v=true):swappedStores [tg] v env=pure none:=by
 unfold swappedStores
 cases tg <;> first | rfl | (cases v <;> first | rfl | exact (Bool.false_ne_true h).elim)
end
structure SCtx (X:Cx) (EX:L2.St→XK) (c:Ctx):Prop extends CtxOk X c where
 mt:Meets X EX
 lv:c.rs=true→∃ E,Leaves X E∧EX=fun _=>E
 st:c.calm=true→X.ex=[]∧X.stack=X.env :: X.outer∧X.env.frame=some X.env.locals
noncomputable def never:L2.St→XK:=fun _ _ _ _=>False
mutual
theorem sS:∀ (st:S) {X:Cx} {EX:L2.St→XK} {c:Ctx} {a:Stmt},SCtx X EX c→mS c st a=true→okS (Y4 X) (Ws X) st→PS X a (LS X.K EX (wS st))
 | .set i e,X,EX,c,a,C,h,ok=>by
  replace h:(opt (uAsg a) fun t=>opt (Wa3 t.1) fun x=>c.at_ i x && c.loc x && mE c e t.2 && (Yh t.2 || Za7 e))=true:=h
  obtain ⟨⟨tg,v⟩,e1,hh⟩:=Wa h
  obtain ⟨x,e2,hh⟩:=Wa hh
  obtain ⟨p,rfl⟩:=X7 (a:=tg) e2
  obtain ⟨pos,rfl⟩:=V4 e1
  replace h:=hh
  simp only [Bool.and_eq_true] at h
  obtain ⟨⟨⟨h1,h2⟩,h3⟩,h4⟩:=h
  obtain ⟨l1,l2⟩:=C.loc x h2
  have hN:X.N.Nodup:=by rw [C.N]; exact C.nd
  have hi:X.N[i]? = some x:=by rw [C.N]; exact Yap h1
  have S:=sE e C.toCtxOk h3 ok
  by_cases hn:Yh v=true
  ·exact PS.wk (ps_set hN hi l1 S.pe (Vai hn) l2) fun D σ H q=>ls_set q
  ·have h4:Za7 e=true:=by
    rcases Bool.or_eq_true_iff.mp h4 with z | z
    ·exact absurd z hn
    ·exact z
   cases e with
   | comp m n tt cap elt it cond =>
    have hv:mE c (.comp m n tt cap elt it cond) v=true→∃ elt' tg iter ifs scope vpos,v = .ListComp elt' [⟨tg,iter,ifs,0⟩] scope vpos∧((c.calm || (Va4 it && !tt)) && opt (Wai tt tg) fun xs=>opt (Zm c cap) fun cs=>n == xs.length && Xa8 c scope (xs ++ cs) cs && Xaq tt it && mI c it iter && mTg (c.in_ (xs ++ cs) scope.names) (List.range n) tt tg && mE (c.in_ (xs ++ cs) scope.names) elt elt' && mEs (c.in_ (xs ++ cs) scope.names) cond ifs && decide (ifs.length≤1))=true:=fun z=>by
     obtain ⟨⟨elt',tg,iter,ifs,scope⟩,e,hh⟩:=Wa z
     obtain ⟨vpos,e⟩:=Var e
     exact ⟨elt',tg,iter,ifs,scope,vpos,e,hh⟩
    obtain ⟨elt',tg,iter,ifs,scope,vpos,rfl,h9⟩:=hv h3
    replace h3:=h9
    have hsw:swapsWith (.ListComp elt' [⟨tg,iter,ifs,0⟩] scope vpos) (some (.Name x p)) pos.line X.env=pure (X.env.blockKind == .function && X.env.kindOf x == some .local && p.line == (Expr.ListComp elt' [⟨tg,iter,ifs,0⟩] scope vpos).pos.line && !(scope.names.any fun (n,k)=>n == x && (k == .local || k == .cell))):=rfl
    cases hb:(X.env.blockKind == .function && X.env.kindOf x == some .local && p.line == (Expr.ListComp elt' [⟨tg,iter,ifs,0⟩] scope vpos).pos.line && !(scope.names.any fun (n,k)=>n == x && (k == .local || k == .cell))) with
    | false =>
     rw [hb] at hsw
     exact PS.wk (ps_set hN hi l1 S.pe hsw l2) fun D σ H q=>ls_set q
    | true =>
     rw [hb] at hsw
     have hl:X.env.scope.names.lookup x=some .local:=by
      simp only [Bool.and_eq_true,beq_iff_eq] at hb
      exact hb.1.1.2
     simp only [Bool.and_eq_true] at h3
     obtain ⟨hcm,h3⟩:=h3
     obtain ⟨xs,hxs,h3⟩:=Wa h3
     obtain ⟨cs,hcs,h3⟩:=Wa h3
     simp only [Bool.and_eq_true,beq_iff_eq] at h3
     obtain ⟨⟨⟨⟨⟨⟨⟨hn,k1⟩,kz⟩,k2⟩,kg⟩,k3⟩,k4⟩,k5⟩:=h3
     have k5:=of_decide_eq_true k5
     subst hn
     have ok':okE (Y4 X) (Ws X) elt∧okI (Y4 X) (Ws X) it∧okEs (Y4 X) (Ws X) cond:=ok
     refine PS.wk (ps_setcomp (gt:=LG X.K fun d r k=>Yg (List.range xs.length) tt d r k) (tt:=LT X.K (wTs cond)) (te:=LE X.K (wE elt)) (wi:=LI X.K (wI it)) (Vag C.toCtxOk hcs k1) (sI it C.toCtxOk k2 ok'.2.1 (Wah kg kz) (cmOr hcm)) (fun cl Ca s H ex=>pg_of (Vq C.toCtxOk k1 cl Ca s H ex) (cmTt hcm) kg) (fun cl Ca s H ex=>sTs cond (Vq C.toCtxOk k1 cl Ca s H ex) k4 k5 ok'.2.2) (fun cl Ca s H ex=>(sE elt (Vq C.toCtxOk k1 cl Ca s H ex) k3 ok'.1).pe) (Xab (mI_set k2)) hN hi hl hsw) fun D σ H q=>?_
     have q:=ls_set (we:=wE (.comp m xs.length tt cap elt it cond)) q
     exact le_comp (tgn hxs) q
   | _=>cases h4
 | .setT is e,X,EX,c,a,C,h,ok=>by
  replace h:(opt (uAsg a) fun t=>opt (vTup t.1) fun ts=>c.calm && Wl c is ts && mE c e t.2 && Yh t.2 && V8 t.2)=true:=h
  obtain ⟨⟨tg,v⟩,e1,hh⟩:=Wa h
  obtain ⟨ts,e2,hh⟩:=Wa hh
  obtain ⟨k,p,rfl⟩:=Wbb (a:=tg) e2
  obtain ⟨pos,rfl⟩:=V4 e1
  replace h:=hh
  simp only [Bool.and_eq_true] at h
  obtain ⟨⟨⟨⟨hcm,h1⟩,h2⟩,h3⟩,h4⟩:=h
  have S:=sE e C.toCtxOk h2 ok
  exact PS.wk (ps_asg S.pe (pg_of C.toCtxOk (is:=is) (tt:=true) (fun _=>hcm) h1) (Zbe h3) (Yat h4) rfl) fun D σ H q=>ls_asg q
 | .dput o i e,X,EX,c,a,C,h,ok=>by
  replace h:(opt (uAsg a) fun t=>opt (vSub t.1) fun u=>c.calm && mE c o u.1 && mE c i u.2 && Vg u.2 && mE c e t.2 && Yh t.2)=true:=h
  obtain ⟨⟨tg,v⟩,e1,hh⟩:=Wa h
  obtain ⟨⟨o',i'⟩,e2,hh⟩:=Wa hh
  obtain ⟨p,rfl⟩:=W4 (a:=tg) e2
  obtain ⟨pos,rfl⟩:=V4 e1
  replace h:=hh
  simp only [Bool.and_eq_true] at h
  obtain ⟨⟨⟨⟨⟨hc,h1⟩,h2⟩,h3⟩,h4⟩,h5⟩:=h
  obtain ⟨k,hr⟩:=C.room
  exact PS.wk (ps_dputD (by have:=hr.units; omega) (sE o C.toCtxOk h1 ok.1).pe (sE i C.toCtxOk h2 ok.2.1).pe (sE e C.toCtxOk h4 ok.2.2).pe (Vai h5)) fun D σ H q=>q
 | .augIx op o i e,X,EX,c,a,C,h,ok=>by
  replace h:(opt (uAug a) fun t=>opt (vSub t.1) fun u=>op == t.2.1 && (op == .Add || op == .Sub) && mE c o u.1 && mE c i u.2 && Vg u.2 && mE c e t.2.2)=true:=h
  obtain ⟨⟨tg,op',v⟩,e1,hh⟩:=Wa h
  obtain ⟨⟨o',i'⟩,e2,hh⟩:=Wa hh
  obtain ⟨p,rfl⟩:=W4 (a:=tg) e2
  obtain ⟨pos,rfl⟩:=uAug_inv e1
  replace h:=hh
  simp only [Bool.and_eq_true,Bool.or_eq_true,beq_iff_eq] at h
  obtain ⟨⟨⟨⟨⟨rfl,h0⟩,h1⟩,h2⟩,h3⟩,h4⟩:=h
  have S1:=sE o C.toCtxOk h1 ok.1
  have S2:=sE i C.toCtxOk h2 ok.2.1
  have S3:=sE e C.toCtxOk h4 ok.2.2
  rcases h0 with rfl | rfl
  ·exact PS.wk (ps_augS S1.pe S2.pe getI_ok S3.pe ip_add Vaj (Za2 h3)) fun D σ H q=>ls_augIx augI_add q
  ·exact PS.wk (ps_augS S1.pe S2.pe getI_ok S3.pe ip_sub Vaj (Za2 h3)) fun D σ H q=>ls_augIx augI_sub q
 | .setIx o i e,X,EX,c,a,C,h,ok=>by
  replace h:(opt (uAsg a) fun t=>opt (vSub t.1) fun u=>mE c o u.1 && mE c i u.2 && Vg u.2 && mE c e t.2 && Yh t.2)=true:=h
  obtain ⟨⟨tg,v⟩,e1,hh⟩:=Wa h
  obtain ⟨⟨o',i'⟩,e2,hh⟩:=Wa hh
  obtain ⟨p,rfl⟩:=W4 (a:=tg) e2
  obtain ⟨pos,rfl⟩:=V4 e1
  replace h:=hh
  simp only [Bool.and_eq_true] at h
  obtain ⟨⟨⟨⟨h1,h2⟩,h3⟩,h4⟩,h5⟩:=h
  exact PS.wk (ps_asg (sE e C.toCtxOk h4 ok.2.2).pe (pg_sub (sE o C.toCtxOk h1 ok.1).pe (sE i C.toCtxOk h2 ok.2.1).pe Vaj (assign_sub h3)) (Zbe h5) (by cases v <;> rfl) rfl) fun D σ H q=>ls_setIx q
 | .exp e,X,EX,c,a,C,h,ok=>by
  replace h:(opt (uExp a) fun v=>mE c e v && Yh v)=true:=h
  obtain ⟨v,e1,hh⟩:=Wa h
  obtain ⟨pos,rfl⟩:=uExp_inv e1
  replace h:=hh
  simp only [Bool.and_eq_true] at h
  refine PS.wk (ps_expr (sE e C.toCtxOk h.1 ok).pe (Vai h.2)) fun D σ H q=>?_
  obtain ⟨ρ,θ,μ,Z,s,q,f⟩:=q
  exact ⟨ρ,θ,μ,_,s,q,fun d v H1 θ1 μ1 w1 g1 r1 h1=>f.nx σ H1 ρ θ1 μ1 (s.grow w1 g1) g1 h1⟩
 | .ret e,X,EX,c,a,C,h,ok=>by
  replace h:(opt (uRet a) fun o=>opt o fun v=>mE c e v)=true:=h
  obtain ⟨o,e1,hh⟩:=Wa h
  obtain ⟨v,rfl,hh⟩:=Wa hh
  obtain ⟨pos,rfl⟩:=uRet_inv e1
  replace h:=hh
  refine PS.wk (ps_ret (sE e C.toCtxOk h ok).pe) fun D σ H q=>?_
  obtain ⟨ρ,θ,μ,Z,s,q,f⟩:=q
  exact ⟨ρ,θ,μ,_,s,q,f.rt⟩
 | .ite t x y,X,EX,c,a,C,h,ok=>by
  replace h:(opt (uIf a) fun u=>mE c t u.1 && mSs c x u.2.1 && mSs c y u.2.2)=true:=h
  obtain ⟨⟨t',x',y'⟩,e1,hh⟩:=Wa h
  obtain ⟨pos,rfl⟩:=uIf_inv e1
  replace h:=hh
  simp only [Bool.and_eq_true] at h
  refine PS.wk (ps_if (sE t C.toCtxOk h.1.1 ok.1).pt (sSs x C h.1.2 ok.2.1) (sSs y C h.2 ok.2.2)) fun D σ H q=>?_
  obtain ⟨ρ,θ,μ,Z,s,q,f⟩:=q
  refine ⟨ρ,θ,μ,_,s,q,fun b H1 θ1 μ1 w1 g1 h1=>?_⟩
  cases b with
  | true=>exact ⟨ρ,θ1,μ1,Z,s.grow w1 g1,h1,f.mono g1⟩
  | false=>exact ⟨ρ,θ1,μ1,Z,s.grow w1 g1,h1,f.mono g1⟩
 | .for_ is tt it b,X,EX,c,a,C,h,ok=>by
  replace h:(opt (uFor a) fun u=>c.calm && mTg c is tt u.1 && mI c it u.2.1 && mSs c b u.2.2 && Xl u.2.1 && Xaq tt it)=true:=h
  obtain ⟨⟨t',i',b'⟩,e1,hh⟩:=Wa h
  obtain ⟨pos,rfl⟩:=uFor_inv e1
  replace h:=hh
  simp only [Bool.and_eq_true] at h
  obtain ⟨⟨⟨⟨⟨hcm,h1⟩,h2⟩,h3⟩,h4⟩,hz⟩:=h
  exact PS.wk (ps_forD C.pas (C.calm hcm) (sI it C.toCtxOk h2 ok.1 (Wah h1 hz) (.inl hcm)) (pg_of C.toCtxOk (fun _=>hcm) h1) (sSs b C h3 ok.2) (Xab h4)) fun D σ H q=>q
 | .whl t b,X,EX,c,a,C,h,ok=>by
  replace h:(opt (uWhl a) fun u=>mE c t u.1 && mSs c b u.2)=true:=h
  obtain ⟨⟨t',b'⟩,e1,hh⟩:=Wa h
  obtain ⟨pos,rfl⟩:=uWhl_inv e1
  replace h:=hh
  simp only [Bool.and_eq_true] at h
  exact PS.wk (ps_whlD C.pas (sE t C.toCtxOk h.1 ok.1).pt (sSs b C h.2 ok.2)) fun D σ H q=>q
 | .nev,X,EX,c,a,C,h,ok=>fun pins s σ H D I q=>by
  obtain ⟨ρ,θ,μ,Z,sm,q,f⟩:=q
  exact q.elim
 | .brk,X,EX,c,a,C,h,ok=>by
  replace h:(opt (uBrk a) fun _=>true)=true:=h
  obtain ⟨_,e1,_⟩:=Wa h
  obtain ⟨pos,rfl⟩:=uBrk_inv e1
  refine PS.wk ps_break fun D σ H q=>?_
  obtain ⟨ρ,θ,μ,Z,s,q,f⟩:=q
  exact f.bk σ H ρ θ μ s Grow.refl q
theorem sSs:∀ (st:Ss) {X:Cx} {EX:L2.St→XK} {c:Ctx} {as:List Stmt},SCtx X EX c→mSs c st as=true→okSs (Y4 X) (Ws X) st→PSs X as (LS X.K EX (wSs st))
 | .nil,X,EX,c,as,C,h,_=>by
  have:as=[]:=by simpa [mSs] using h
  subst this
  refine PSs.wk pss_nil fun D σ H q=>?_
  obtain ⟨ρ,θ,μ,Z,s,q,f⟩:=q
  exact f.nx σ H ρ θ μ s Grow.refl q
 | .cons s r,X,EX,c,as,C,h,ok=>by
  cases as with
  | nil=>simp [mSs] at h
  | cons a as =>
   simp only [mSs,Bool.and_eq_true] at h
   refine PSs.wk (pss_cons (sS s C h.1 ok.1) (sSs r C h.2 ok.2)) fun D σ H q=>?_
   obtain ⟨ρ,θ,μ,Z,sm,q,f⟩:=q
   refine ⟨ρ,θ,μ,_,sm,q,⟨fun σ' H' ρ' θ' μ' s' g' z=>⟨ρ',θ',μ',Z,s',z,f.mono g'⟩,f.rt,f.bk,f.ct,f.xc⟩⟩
end
end DW
end
section
set_option autoImplicit false
set_option maxHeartbeats 2000000
namespace DW
open PySem PySem.Spec PyProof.Rows L2
structure Top where
 P:Program
 w:World
 K:PySem.W.Frag
 mg:Str→Option Value
 base:Heap
noncomputable def FnLev (T:Top) (k:Nat):Rf→DSp→Prop
 | .fn x,sp=>∃ (fa:Addr) (fd:FuncData) (ps:List Str),T.mg x=some (.ref fa)∧PySem.W.keepIn T.K (.ref fa)=true∧Binds T.K fd ps []∧FnOk T.P T.w T.K T.mg T.base (CXE T.P T.w) k fa fd ps (low T.K sp)
 | .mth c m,sp=>∃ (C fa:Addr) (fd:FuncData) (ps:List Str),PySem.W.nsIn T.K mainGlobals (Str.ofString c)=some (some (.ref C))∧Cls T.K C∧Meth T.K C (Str.ofString m) fa∧Binds T.K fd ps []∧FnOk T.P T.w T.K T.mg T.base (CXE T.P T.w) k fa fd ps (low T.K sp)
 | .mk c,sp=>∃ (C fa:Addr) (fd:FuncData) (ps:List Str) (j:Nat),PySem.W.nsIn T.K mainGlobals (Str.ofString c)=some (some (.ref C))∧T.mg (Str.ofString c)=some (.ref C)∧Mk T.K C fa∧Binds T.K fd ps []∧FnOk T.P T.w T.K T.mg T.base (CXE T.P T.w) j fa fd ps (low T.K sp)∧j + 1≤k
 | .fld c f,_=>∃ C:Addr,PySem.W.nsIn T.K mainGlobals (Str.ofString c)=some (some (.ref C))∧Cls T.K C∧Ya3 T.K C (Str.ofString f)
 | .fnX x sp,_=>∃ (fa:Addr) (fd:FuncData) (ps:List Str),T.mg x=some (.ref fa)∧PySem.W.keepIn T.K (.ref fa)=true∧Binds T.K fd ps []∧FnOk T.P T.w T.K T.mg T.base (CXE T.P T.w) k fa fd ps (lowX T.K sp)
 | .mthX c m sp,_=>∃ (C fa:Addr) (fd:FuncData) (ps:List Str),PySem.W.nsIn T.K mainGlobals (Str.ofString c)=some (some (.ref C))∧Cls T.K C∧Meth T.K C (Str.ofString m) fa∧Binds T.K fd ps []∧FnOk T.P T.w T.K T.mg T.base (CXE T.P T.w) k fa fd ps (lowX T.K sp)
 | .mkX c sp,_=>∃ (C fa:Addr) (fd:FuncData) (ps:List Str) (j:Nat),PySem.W.nsIn T.K mainGlobals (Str.ofString c)=some (some (.ref C))∧T.mg (Str.ofString c)=some (.ref C)∧Mk T.K C fa∧Binds T.K fd ps []∧FnOk T.P T.w T.K T.mg T.base (CXE T.P T.w) j fa fd ps (lowX T.K sp)∧j + 1≤k
 | .fnM x,sp=>∃ (fa:Addr) (fd:FuncData) (ps:List Str),T.mg x=some (.ref fa)∧PySem.W.keepIn T.K (.ref fa)=true∧Binds T.K fd ps []∧FnOk T.P T.w T.K T.mg T.base (CXE T.P T.w) 15 fa fd ps (low T.K sp)∧15≤k
 | .rsi c ks,_=>IniAt T.P T.w T.K T.mg T.base c ks∧2≤k
 | .efl f tab,_=>EflAt T.K f tab
 | .rse c,_=>RseAt T.K T.mg c
 | .hdl P tab,_=>HdlAt T.K T.mg P tab
 | .isx tt ts tab,_=>IsxAt T.K T.mg tt ts tab
noncomputable abbrev FnTop (T:Top) (k:Nat):Rf→DSp→Prop:=FnLev T (k + 16)
noncomputable def Ve (T:Top) (x:Str) (d:D):Prop:=∃ (u:Value) (v:V),T.mg x=some u∧RelV v u∧∀ H θ μ,Rp T.K H θ μ d v
theorem FnLev.up {T:Top} {j k:Nat} {x:Rf} {sp:DSp} (h:FnLev T j x sp) (hk:j≤k):FnLev T k x sp:=by
 cases x with
 | fn x =>
  obtain ⟨fa,fd,ps,h1,h2,h3,h4⟩:=h
  exact ⟨fa,fd,ps,h1,h2,h3,h4.mono hk⟩
 | mth c m =>
  obtain ⟨C,fa,fd,ps,h0,h1,h2,h3,h4⟩:=h
  exact ⟨C,fa,fd,ps,h0,h1,h2,h3,h4.mono hk⟩
 | mk c =>
  obtain ⟨C,fa,fd,ps,i,h0,h1,h2,h3,h4,h5⟩:=h
  exact ⟨C,fa,fd,ps,i,h0,h1,h2,h3,h4,Nat.le_trans h5 hk⟩
 | fld c f=>exact h
 | fnX x sp =>
  obtain ⟨fa,fd,ps,h1,h2,h3,h4⟩:=h
  exact ⟨fa,fd,ps,h1,h2,h3,h4.mono hk⟩
 | mthX c m sp =>
  obtain ⟨C,fa,fd,ps,h0,h1,h2,h3,h4⟩:=h
  exact ⟨C,fa,fd,ps,h0,h1,h2,h3,h4.mono hk⟩
 | mkX c sp =>
  obtain ⟨C,fa,fd,ps,i,h0,h1,h2,h3,h4,h5⟩:=h
  exact ⟨C,fa,fd,ps,i,h0,h1,h2,h3,h4,Nat.le_trans h5 hk⟩
 | fnM x =>
  obtain ⟨fa,fd,ps,h1,h2,h3,h4,h5⟩:=h
  exact ⟨fa,fd,ps,h1,h2,h3,h4,Nat.le_trans h5 hk⟩
 | rsi c ks=>exact ⟨h.1,Nat.le_trans h.2 hk⟩
 | efl f tab=>exact h
 | rse c=>exact h
 | hdl P tab=>exact h
 | isx tt ts tab=>exact h
theorem FnTop.up {T:Top} {j k:Nat} {x:Rf} {sp:DSp} (h:FnTop T j x sp) (hk:j≤k):FnTop T k x sp:=FnLev.up h (Nat.add_le_add_right hk 16)
theorem low_calm {K:PySem.W.Frag} {sp:DSpX} {vs:List V} {H:Hp} {Q:VK} {E:XK} (h:low K (calmSp sp) vs H Q E):lowX K sp vs H Q E:=by
 obtain ⟨ds,θ,μ,Qd,w,r,h,f⟩:=h
 exact ⟨ds,θ,μ,Qd,_,w,r,h,f,fun _ _ _ _ _ _ _ _ z=>z.elim⟩
theorem FnTop.calm {T:Top} {k:Nat} {x:Str} {sp:DSpX} (h:FnTop T k (.fnX x sp) spN):FnTop T k (.fn x) (calmSp sp):=by
 obtain ⟨fa,fd,ps,h1,h2,h3,h4⟩:=h
 exact ⟨fa,fd,ps,h1,h2,h3,h4.imp fun _ _ _ _ z=>low_calm z⟩
theorem sim_start {K:PySem.W.Frag} {H:Hp} {θ:List Addr} {μ:Mem} {ds:List D} {vs:List V} (N:List Str) (w:WOk K H θ μ) (r:Rps K H θ μ ds vs):Sim K (L2.start N vs) H (Yd N ds) θ μ:=by
 have hl:=r.length
 refine ⟨w,by simp [L2.start,Yd,hl],fun i d h=>?_⟩
 unfold Yd at h
 by_cases hi:i < ds.length
 ·rw [List.getElem?_append_left (by simpa using hi),List.getElem?_map] at h
  cases e:ds[i]? with
  | none=>rw [e] at h; cases h
  | some d' =>
   rw [e] at h; cases h
   obtain ⟨v,e1,e2⟩:=r.get e
   refine ⟨v,?_,e2⟩
   unfold L2.start
   rw [List.getElem?_append_left (by simpa using (hl ▸ hi)),List.getElem?_map,e1]; rfl
 ·rw [List.getElem?_append_right (by simpa using hi),List.getElem?_replicate] at h
  split at h <;> cases h
section
variable {T:Top} {k:Nat} {x qual:Str} {st:Stmt} {f:Addr} {fd:FuncData} {N ps blts:List Str} {i:Ss} {sp:DSp} {spx:DSpX}
theorem body_ok {spL:Sp} {cm:Bool} (hcm:cm=true→16≤k) (F:Fun T.K x qual st f fd) (S:FnScope N ps (Xa st)) (hmt:mSs ⟨N,(Xa st).names,blts,cm,true⟩ i (Xb st)=true) (hblt:∀ y,blts.contains y=true→T.mg y=none)
  (ok:okSs (FnLev T k) (Ve T) i) (len:∀ vs H Q E,spL vs H Q E→vs.length=ps.length)
  (hrun:∀ vs H Q E,spL vs H Q E→∃ ds θ μ Z,WOk T.K H θ μ∧Rps T.K H θ μ ds vs∧wSs i Z (Yd N ds) μ∧FinS T.K (fun _=>E) H θ μ Z { nx:=fun _ H'=>Q .non H',rt:=Q }) :
  FnOk T.P T.w T.K T.mg T.base (CXE T.P T.w) (k + 1) f fd ps spL:=by
 obtain ⟨oc,od,kV,doc,pm,an,cdv,ct,osl,rfl,lk,hcd⟩:=F.ex
 refine fn_of lk hcd S len fun A outer s H vs Q E hr h=>?_
 obtain ⟨ds,θ,μ,Z,wok,r,hs,fin⟩:=hrun vs H Q E h
 have L:=leaves_cx (P:=T.P) (w:=T.w) (K:=T.K) (mg:=T.mg) (base:=T.base) (N:=N) (qual:=qual) (scope:=Xa st) (f:=f) (cd:=cdv) (A:=A) (outer:=outer) (s:=s) (H:=H) (E:=E)
 have C:SCtx (cxOf (CXE T.P T.w) T.P T.w T.K T.mg T.base N qual (Xa st) f cdv A outer s H E) (fun _=>E) ⟨N,(Xa st).names,blts,cm,true⟩:=by
  refine ⟨⟨rfl,S.nd,fun y hy=>?_,fun y hy=>?_,fun y hy=>?_,fun y hy=>?_,fun y hy=>hy,fun y hy=>hblt y hy,fun z=>Option.isNone_iff_eq_none.mpr (hr.hd (hcm z)),⟨k,hr⟩,PassesOwn.leaving⟩,meets_of L,fun _=>⟨E,L,rfl⟩,fun _=>⟨rfl,rfl,rfl⟩⟩
  ·unfold Ctx.vis at hy
   split at hy
   ·rename_i z; exact .inl z
   ·rename_i z; exact .inr (.inl z)
   ·rename_i z; exact .inr (.inr z)
   ·cases hy
  ·unfold Ctx.loc at hy
   split at hy
   ·rename_i z; exact ⟨.inl z,.inl rfl⟩
   ·rename_i z; exact ⟨.inr z,.inl rfl⟩
   ·cases hy
  ·have hy':(Xa st).names.lookup y=some .local:=by simpa [isLocal] using hy
   exact hy'
  ·unfold Ctx.glb at hy
   split at hy
   ·rename_i z; exact z
   ·cases hy
 refine ⟨LS T.K (fun _=>E) (wSs i),sSs i C hmt (okSs.mono i (fun y sp' z=>?_) (fun y d z=>z) ok),?_⟩
 ·cases y with
  | fn y =>
   obtain ⟨fa,fd',ps',h1,h2,h3,h4⟩:=z
   exact ⟨fa,fd',ps',k,h1,h2,h3,h4,hr⟩
  | mth c m =>
   obtain ⟨C',fa,fd',ps',h0,h1,h2,h3,h4⟩:=z
   exact ⟨C',fa,fd',ps',k,h0,h1,h2,h3,h4,hr⟩
  | mk c =>
   obtain ⟨C',fa,fd',ps',j,h0,h1,h2,h3,h4,h5⟩:=z
   exact ⟨C',fa,fd',ps',j,h0,h1,h2,h3,h4,hr.mono h5⟩
  | fld c f=>exact z
  | fnX y sp =>
   obtain ⟨fa,fd',ps',h1,h2,h3,h4⟩:=z
   exact ⟨fa,fd',ps',k,h1,h2,h3,h4,hr⟩
  | mthX c m sp =>
   obtain ⟨C',fa,fd',ps',h0,h1,h2,h3,h4⟩:=z
   exact ⟨C',fa,fd',ps',k,h0,h1,h2,h3,h4,hr⟩
  | mkX c sp =>
   obtain ⟨C',fa,fd',ps',j,h0,h1,h2,h3,h4,h5⟩:=z
   exact ⟨C',fa,fd',ps',j,h0,h1,h2,h3,h4,hr.mono h5⟩
  | fnM y =>
   obtain ⟨fa,fd',ps',h1,h2,h3,h4,h5⟩:=z
   exact ⟨fa,fd',ps',h1,h2,h3,h4,hr.mono h5⟩
  | rsi c ks=>exact ⟨z.1,hr.mono z.2⟩
  | efl f tab=>exact z
  | rse c=>exact z
  | hdl P tab=>exact z
  | isx tt ts tab=>exact z
 ·exact ⟨Yd N ds,θ,μ,Z,sim_start N wok r,hs,fin⟩
theorem fn_okF (F:Fun T.K x qual st f fd) (S:FnScope N ps (Xa st)) (hmt:mSs (Ctx.of N (Xa st).names blts) i (Xb st)=true) (hblt:∀ y,blts.contains y=true→T.mg y=none)
  (ok:okSs (FnTop T k) (Ve T) i) (har:∀ ds μ Q,sp ds μ Q→ds.length=ps.length) (hk:Keeps N i sp):FnOk T.P T.w T.K T.mg T.base (CXE T.P T.w) (k + 16 + 1) f fd ps (low T.K sp):=by
 refine body_ok (fun _=>Nat.le_add_left 16 k) F S hmt hblt ok (fun vs H Q E h=>?_) fun vs H Q E h=>?_
 ·obtain ⟨ds,θ,μ,Qd,wok,r,hs,_⟩:=h
  rw [← r.length]; exact har ds μ Qd hs
 ·obtain ⟨ds,θ,μ,Qd,wok,r,hs,fin⟩:=h
  refine ⟨ds,θ,μ,topZ Qd,wok,r,hk ds μ Qd hs,⟨fun σ' H' ρ' θ' μ' s' g z=>?_,fin,fun _ _ _ _ _ _ _ z=>z.elim,fun _ _ _ _ _ _ _ z=>z.elim,fun _ _ _ _ _ _ _ _ _ _ z=>z.elim⟩⟩
  exact fin .non .non H' θ' μ' s'.wok g Zbf z
theorem fn_ok {y:Str} (F:Fun T.K x qual st f fd) (S:FnScope N ps (Xa st)) (hmt:mSs (Ctx.of N (Xa st).names blts) i (Xb st)=true) (hblt:∀ y,blts.contains y=true→T.mg y=none)
  (ok:okSs (FnTop T k) (Ve T) i) (har:∀ ds μ Q,sp ds μ Q→ds.length=ps.length) (hk:Keeps N i sp) (hm:T.mg y=some (.ref f)) (hb:Binds T.K fd ps []):FnTop T (k + 1) (.fn y) sp :=
 ⟨f,fd,ps,hm,F.kp,hb,(fn_okF F S hmt hblt ok har hk).mono (by omega:k + 16 + 1≤k + 1 + 16)⟩
end
theorem Wae {K:PySem.W.Frag} {H:Hp} {θ:List Addr} {L:Addr→Prop}:∀ ns:List Int,Reps K H θ L (ns.map D.int) (ns.map V.int)
 | []=>Reps.nil
 | n :: ns=>Reps.cons (by unfold Rep; rfl) (Wae ns)
theorem law_start {K:PySem.W.Frag} {H:Hp} {a:Addr} {ns:List Int} (hl:ns.length≤63) (hO:Only H) (hS:SqL K H a (ns.map V.int)):low K spLaw [.ref a] H (fun v _=>v = .bl true) fun _ _ _=>False:=by
 refine ⟨[.ro (ns.map D.int)],[],[],fun d _=>d = .bl true,⟨rfl,fun m n b h=>by simp at h,fun n b h=>by simp at h,fun n c b h=>by simp at h⟩,Reps.one ?_,⟨ns,rfl,hl,fun _=>rfl⟩,fun d v H' θ' μ' w g r q=>?_⟩
 ·unfold Rep
  refine ⟨a,ns.map V.int,rfl,?_,Wae ns⟩
  rcases hS with (h | ⟨o,h⟩) | h
  ·rcases hO a with z | ⟨o,xs,z⟩
   ·rw [h] at z; cases z
   ·rw [h] at z; cases z
  ·exact .inl ⟨o,h,fun ⟨n,c,e,_⟩=>by simp at e⟩
  ·exact .inr h
 ·subst q; exact Zi r
theorem law_walk {l:PySem.W.OpenLaw} {k:Nat} {q:Program} {loose:List Str} {XP:(Str→Option Value)→Heap→Prop} {YP:World→Heap→Prop} {d:DefRec} {K:Params→PySem.W.Frag} (hI:importsNone q=true) (hn:l.most=some 63) (hk:k≤200) (hdf:d.params.defaults=[])
  (hY:∀ (w:World) (h:Heap),YP w h→(K w.params).In h)
  (F:∀ (w:World) (mg:Str→Option Value) (fa:Addr) (h:Heap),(K w.params).In h→h.Ns mainGlobals mg→mg d.name=some (.ref fa) →
   ∃ fd:FuncData,(∀ (s:Shared) (u:Value),BindsTo s fd ⟨[u],[]⟩ [("script",u)])∧∀ base:Heap,(K w.params).In base→base.Ns mainGlobals mg→FnOk l.prog w (K w.params) mg base (CXE l.prog w) k fa fd ["script"] (low (K w.params) spLaw)) :
  PySem.W.WalkO q loose XP YP l.row.toRowW d [] (fun f vs=>PySem.call f vs):=by
 have hr:Room 200 callerA:=⟨fun _=>rfl,by decide,by decide,rfl⟩
 exact L2.walk_of (n:=63) (k:=k) (x:="script") (CX:=fun w=>CXE l.prog w) (sp:=fun w=>low (K w.params) spLaw) hI hn (by decide) hdf (hr.mono hk) hY F (fun _ _ a ns hl hO hS=>law_start hl hO hS) fun w _ _ _ _ z=>by
  obtain ⟨_,_,_,_,_,_,_,_,_,q⟩:=z
  exact q
section
variable {α:Type} {P:List α→Prop}
theorem len1 (h:∀ a,P [a]):∀ us:List α,us.length=1→P us
 | [a],_=>h a
theorem len2 (h:∀ a b,P [a,b]):∀ us:List α,us.length=2→P us
 | [a,b],_=>h a b
theorem len3 (h:∀ a b c,P [a,b,c]):∀ us:List α,us.length=3→P us
 | [a,b,c],_=>h a b c
end
noncomputable def DefAt (K:PySem.W.Frag) (x:Str) (st:Stmt):Prop:=∃ (f:Addr) (fd:FuncData),PySem.W.nsIn K mainGlobals x=some (some (.ref f))∧Fun K x x st f fd
theorem defAt_mk {K:PySem.W.Frag} {x:Str} {st:Stmt} {f:Addr} {oc:Value} {od an:Option Addr} {osl:Array (Option Value)} {kV doc pm cdv ct:Value} (a:PySem.W.nsIn K mainGlobals x=some (some (.ref f)))
  (l:K.lookup f=some ⟨oc,od,.func (PySem.W.fnOf x x (Vz st) (Xb st) (Xa st) .none kV doc pm an cdv ct),osl⟩) (c:PySem.W.codeIn K cdv x=true) (k:PySem.W.keepIn K (.ref f)=true):DefAt K x st:=⟨f,_,a,fun_mk l c k⟩
noncomputable def FreeAt (K:PySem.W.Frag):List Str→Prop
 | []=>True
 | x :: xs=>PySem.W.nsIn K mainGlobals x=some none∧FreeAt K xs
theorem free_of {K:PySem.W.Frag} {h:Heap} {mg:Str→Option Value} (X:K.In h) (G:h.Ns mainGlobals mg):∀ {xs:List Str},FreeAt K xs→∀ y,xs.contains y=true→mg y=none
 | [],_,y,h=>by simp at h
 | x :: xs,F,y,h=>by
  by_cases e:y=x
  ·subst e; exact PySem.W.mg_none_of X G F.1
  ·exact free_of X G F.2 y (by simpa [e] using h)
theorem Vk {T:Top} {h:Heap} {k:Nat} {x:Str} {st:Stmt} {N ps blts:List Str} {i:Ss} {sp:DSp} (D:DefAt T.K x st) (X:T.K.In h) (G:h.Ns mainGlobals T.mg) (S:FnScope N ps (Xa st)) (hmt:mSs (Ctx.of N (Xa st).names blts) i (Xb st)=true) (hblt:∀ y,blts.contains y=true→T.mg y=none)
  (hbd:∀ (kV doc pm:Value) (an:Option Addr) (cdv ct:Value) (us:List Value),us.length=ps.length→bindArgs (PySem.W.fnOf x x (Vz st) (Xb st) (Xa st) .none kV doc pm an cdv ct) ⟨us,[]⟩=pure (ps.zip us))
  (har:∀ ds μ Q,sp ds μ Q→ds.length=ps.length) (hk:Keeps N i sp) (ok:okSs (FnTop T k) (Ve T) i):FnTop T (k + 1) (.fn x) sp:=by
 obtain ⟨f,fd,a,F⟩:=D
 exact fn_ok F S hmt hblt ok har hk (PySem.W.mg_of X G a) (F.binds hbd)
noncomputable def NoAt (K:PySem.W.Frag) (c f:String):Prop:=∃ C:Addr,PySem.W.nsIn K mainGlobals (Str.ofString c)=some (some (.ref C))∧PySem.W.findIn K (.ref C) (Str.ofString f)=some none
section
variable {T:Top} {k:Nat} {c m:String} {q:Str} {st:Stmt} {N ps blts:List Str} {i:Ss} {sp:DSp} {spx:DSpX}
end
noncomputable def RseK (K:PySem.W.Frag) (c:String):Prop:=∃ C,PySem.W.nsIn K mainGlobals (Str.ofString c)=some (some (.ref C))∧PySem.W.excIn K C bmVE "ValueError.__new__" = true
noncomputable def XCls (K:PySem.W.Frag) (c:String):Prop:=∃ C,PySem.W.nsIn K mainGlobals (Str.ofString c)=some (some (.ref C))∧ExcCls K C
noncomputable def HdlK (K:PySem.W.Frag) (P:String) (tab:List String):Prop:=∃ CP,PySem.W.nsIn K mainGlobals (Str.ofString P)=some (some (.ref CP))∧∀ c∈tab,∃ C,PySem.W.nsIn K mainGlobals (Str.ofString c)=some (some (.ref C))∧PySem.W.exmOne K (.ref C) (.ref CP)=some true
noncomputable def ClsValsK (K:PySem.W.Frag):List String→List V→Prop
 | [],[]=>True
 | t :: ts,v :: vs=>((∃ C,v = .ref C∧PySem.W.nsIn K mainGlobals (Str.ofString t)=some (some (.ref C)))∨(v = .ty t∧PySem.W.nsIn K mainGlobals (Str.ofString t)=some none∧bootBuiltins (Str.ofString t)=some (.type t)∧Str.ofString t≠"__name__"))∧ClsValsK K ts vs
 | _,_=>False
noncomputable def IsxK (K:PySem.W.Frag) (tt:Bool) (ts:List String) (tab:List (String×Bool)):Prop:=∃ vs,ClsValsK K ts vs∧∀ p∈tab,∃ C,PySem.W.nsIn K mainGlobals (Str.ofString p.1)=some (some (.ref C))∧ExcCls K C ∧
 (if tt=true then PySem.W.kitAny K (.ref C) (vs.map clsU)=some p.2 else ∃ v,vs=[v]∧PySem.W.kitOne K (.ref C) (clsU v)=some p.2)
section
variable {K:PySem.W.Frag} {h:Heap} {mg:Str→Option Value} (X:K.In h) (G:h.Ns mainGlobals mg)
include X G
theorem RseK.at {c:String} (r:RseK K c):RseAt K mg c:=by
 obtain ⟨C,h1,h2⟩:=r
 exact ⟨C,h1,PySem.W.mg_of X G h1,h2⟩
theorem HdlK.at {P:String} {tab:List String} (r:HdlK K P tab):HdlAt K mg P tab:=by
 obtain ⟨C,h1,h2⟩:=r
 exact ⟨C,PySem.W.mg_of X G h1,h2⟩
theorem ClsValsK.at:∀ {ts:List String} {vs:List V},ClsValsK K ts vs→Zbb mg ts vs
 | [],[],_=>trivial
 | [],_ :: _,r=>r.elim
 | _ :: _,[],r=>r.elim
 | t :: ts,v :: vs,r=>by
  refine ⟨?_,ClsValsK.at r.2⟩
  rcases r.1 with ⟨C,e,h1⟩ | ⟨e,h1,h2,h3⟩
  ·exact .inl ⟨C,e,PySem.W.mg_of X G h1⟩
  ·exact .inr ⟨e,PySem.W.mg_none_of X G h1,h2,h3⟩
theorem IsxK.at {tt:Bool} {ts:List String} {tab:List (String×Bool)} (r:IsxK K tt ts tab):IsxAt K mg tt ts tab:=by
 obtain ⟨vs,h1,h2⟩:=r
 exact ⟨vs,ClsValsK.at X G h1,h2⟩
end
noncomputable def EflK (K:PySem.W.Frag) (f:String):List String→Prop
 | []=>True
 | c :: cs=>(XCls K c∧NoAt K c f∧∃ C,PySem.W.nsIn K mainGlobals (Str.ofString c)=some (some (.ref C))∧PySem.W.hasDictIn K C=true)∧EflK K f cs
theorem EflK.at {K:PySem.W.Frag} {f:String}:∀ {tab:List String},EflK K f tab→EflAt K f tab
 | [],_,c,m=>by simp at m
 | x :: tab,h,c,m=>by
  rcases List.mem_cons.mp m with rfl | m
  ·obtain ⟨⟨C,a1,a2⟩,⟨C',b1,b2⟩,C'',c1,c2⟩:=h.1
   rw [a1] at b1 c1; cases b1; cases c1
   exact ⟨C,a1,a2,b2,c2⟩
  ·exact EflK.at h.2 c m
end DW
end
section
set_option autoImplicit false
namespace DW
open PySem
noncomputable def Yr (μ:Mem) (n:Nat):Prop:=∃ b:Int,μ[n]? = some (.lst [.int b])
noncomputable def bx (μ:Mem) (n:Nat) (b:Int):Mem:=μ.set n (.lst [.int b])
def spL_box:DSp:=fun ds μ Q=>match ds with
 | [.ro xs,.int k]=>∃ ns:List Int,xs=ns.map D.int∧ns.length < 1000∧0≤k∧∀ b,Q (.loc μ.length) (μ ++ [.lst [.int b]])
 | _=>False
def spL_take:DSp:=fun ds μ Q=>match ds with
 | [.loc n,.int m]=>Yr μ n∧0 < m∧m < 2 ^ 500∧∀ d b,0≤d→d < m→Q (.int d) (bx μ n b)
 | _=>False
def nL_take:List Str:=["box","many","left","digit"]
noncomputable def iL_take:Ss:=(.cons (.setT [2,3] (.blt "divmod" (.cons (.idx (.var 0) (.cst (.int 0))) (.cons (.var 1) .nil)))) (.cons (.setIx (.var 0) (.cst (.int 0)) (.var 2)) (.cons (.ret (.var 3)) .nil)))
theorem Xj {μ:Mem} {n:Nat} {b:Int} (h:Yr μ n):Yr (bx μ n b) n:=by
 obtain ⟨c,h⟩:=h
 exact ⟨b,by unfold bx; rw [List.getElem?_set_self (List.getElem?_eq_some_iff.mp h).1]⟩
theorem Vaa {μ:Mem} {b:Int}:Yr (μ ++ [.lst [.int b]]) μ.length:=⟨b,by simp⟩
theorem bx_bx {μ:Mem} {n:Nat} {b c:Int}:bx (bx μ n b) n c=bx μ n c:=by simp [bx]
theorem kL_take:Keeps nL_take iL_take spL_take:=by
 intro ds μ Q h
 unfold spL_take at h
 split at h
 ·obtain ⟨⟨b,hb⟩,h0,hm,h⟩:=h
  rename_i n m
  have hc:CDivD m:=⟨h0,hm⟩
  simp [iL_take,nL_take,Yd,topZ,wSs,wS,wT,wE,wEs,wIdx,Yb,hb,ixD,wBlt,hc,Yg,Wo]
  exact h _ _ (Int.emod_nonneg _ (by omega)) (Int.emod_lt_of_pos _ h0)
 ·exact h.elim
end DW
end
section
set_option autoImplicit false
namespace DW
open PySem
noncomputable def ga (r:List Itm) (p:Nat):Nat:=match r[p]? with | some x=>((r.take p).filter fun y=>lt2 x y).length | none=>0
noncomputable def gas (r:List Itm):List Int:=(List.range r.length).map fun p=>(ga r p:Int)
noncomputable def mx:List Int→Int
 | []=>0
 | i :: is=>is.foldl max i
noncomputable def dicB (μ:Mem) (n:Nat):Bool:=match μ[n]? with | some (.dic _ _)=>true | _=>false
theorem dic_at {μ:Mem} {n:Nat} (h:dicB μ n=true):∃ ks ds,μ[n]? = some (.dic ks ds):=by
 unfold dicB at h
 split at h
 ·rename_i ks ds e; exact ⟨ks,ds,e⟩
 ·cases h
theorem dic_ty {μ:Mem} {n:Nat} (h:dicB μ n=true):tyOf μ (.loc n)=some "dict":=by
 unfold dicB at h
 simp only [tyOf]
 split at h
 ·rename_i e; rw [e]
 ·cases h
def spL_whole:DSp:=fun ds μ Q=>match ds with
 | [.int _]=>Q (.bl true) μ
 | [.loc n]=>dicB μ n=true∧Q (.bl false) μ
 | [.ro _]=>False
 | [.fdc _ _]=>False
 | [_]=>Q (.bl false) μ
 | _=>False
def nL_whole:List Str:=["thing"]
noncomputable def iL_whole:Ss:=(.cons (.ret (.and (.isin (.var 0) "int") (.not (.isin (.var 0) "bool")))) .nil)
theorem kL_whole:Keeps nL_whole iL_whole spL_whole:=by
 intro ds μ Q h
 unfold spL_whole at h
 split at h
 ·simpa [iL_whole,nL_whole,Yd,topZ,wSs,wS,wE,Wx,tyOf,isTy,wBl] using h
 ·simpa [iL_whole,nL_whole,Yd,topZ,wSs,wS,wE,Wx,dic_ty h.1,isTy,wBl] using h.2
 ·exact h.elim
 ·exact h.elim
 ·rename_i d h1 h2 h3 h4
  cases d with
  | int i=>exact absurd rfl (h1 i)
  | loc i=>exact absurd rfl (h2 i)
  | ro i=>exact absurd rfl (h3 i)
  | fdc i j=>exact absurd rfl (h4 i j)
  | _=>simpa [iL_whole,nL_whole,Yd,topZ,wSs,wS,wE,Wx,tyOf,isTy,wBl] using h
 ·exact h.elim
theorem gas_nn (r:List Itm):∀ i∈gas r,0≤i:=by
 intro i hi
 simp [gas] at hi
 obtain ⟨p,_,rfl⟩:=hi
 omega
end DW
end
section
set_option autoImplicit false
namespace DW
end DW
end
section
set_option autoImplicit false
namespace DW
noncomputable def cnt (A:List Itm) (x:Itm):Nat:=(A.filter (lt2 x)).length
noncomputable def gf:List Itm→List Itm→List Int
 | _,[]=>[]
 | A,x :: l=>(cnt A x:Int) :: gf (A ++ [x]) l
theorem gf_eq:∀ (l A:List Itm),gf A l=(List.range l.length).map fun p=>(ga (A ++ l) (A.length + p):Int)
 | [],A=>rfl
 | x :: l,A=>by
  have h:=gf_eq l (A ++ [x])
  rw [gf,h,List.length_cons,List.range_succ_eq_map,List.map_cons,List.map_map]
  congr 1
  ·simp [ga,cnt]
  ·refine List.map_congr_left fun p _=>?_
   simp [Nat.add_assoc,Nat.add_comm 1 p]
theorem gas_gf (r:List Itm):gas r=gf [] r:=by
 rw [gf_eq]
 simp [gas]
noncomputable def mxr (l:List Int):Int:=l.foldr max 0
theorem Ybg:∀ l:List Int,0≤mxr l
 | []=>Int.le_refl _
 | i :: l=>by have:=Ybg l; show 0≤max i (mxr l); omega
theorem Yaf:∀ a b:List Int,mxr (a ++ b)=max (mxr a) (mxr b)
 | [],b=>by have:=Ybg b; show mxr b=max 0 (mxr b); omega
 | i :: a,b=>by
  show max i (mxr (a ++ b))=max (max i (mxr a)) (mxr b)
  rw [Yaf a b]; omega
theorem foldl_mx:∀ (l:List Int) (i:Int),0≤i→l.foldl max i=max i (mxr l)
 | [],i,h=>by show i=max i 0; omega
 | j :: l,i,h=>by
  rw [List.foldl_cons,foldl_mx l (max i j) (by omega)]
  show max (max i j) (mxr l)=max i (max j (mxr l)); omega
theorem mx_eq (l:List Int) (h:∀ i∈l,0≤i):mx l=mxr l:=by
 cases l with
 | nil=>rfl
 | cons i l=>exact foldl_mx l i (h i (by simp))
theorem mx_gas (r:List Itm):mx (gas r)=mxr (gf [] r):=by rw [mx_eq _ (gas_nn r),gas_gf]
theorem cnt_perm {A B:List Itm} (p:A.Perm B) (x:Itm):cnt A x=cnt B x:=(p.filter _).length_eq
theorem cnt_snoc (A:List Itm) (x y:Itm):cnt (A ++ [x]) y=cnt A y + if lt2 y x=true then 1 else 0:=by
 unfold cnt
 rw [List.filter_append,List.length_append]
 by_cases h:lt2 y x=true
 ·simp [h]
 ·simp [h]
theorem gf_perm:∀ (l:List Itm) {A B:List Itm},A.Perm B→gf A l=gf B l
 | [],A,B,_=>rfl
 | x :: l,A,B,p=>by rw [gf,gf,cnt_perm p,gf_perm l (p.append_right [x])]
theorem Yay:∀ (B A C:List Itm),gf A (B ++ C)=gf A B ++ gf (A ++ B) C
 | [],A,C=>by simp [gf]
 | x :: B,A,C=>by simp [gf,Yay B (A ++ [x]) C]
theorem cnt_le {x y:Itm} (h:lt2 x y=true):∀ A:List Itm,cnt A y≤cnt A x
 | []=>Nat.le_refl _
 | z :: A=>by
  have ih:=cnt_le h A
  unfold cnt at ih ⊢
  by_cases q:lt2 y z=true
  ·have q2:lt2 x z=true:=by
    cases q3:lt2 x z with
    | true=>rfl
    | false =>
     have:=lt2_trans z x y q3 (lt2_asym _ _ h)
     rw [q] at this; cases this
   rw [List.filter_cons_of_pos q,List.filter_cons_of_pos q2,List.length_cons,List.length_cons]
   omega
  ·rw [List.filter_cons_of_neg q]
   by_cases q2:lt2 x z=true
   ·rw [List.filter_cons_of_pos q2,List.length_cons]; omega
   ·rw [List.filter_cons_of_neg q2]; exact ih
theorem exchanged (A B:List Itm) (x y:Itm) (h:lt2 x y=true) :
  (gas (A ++ y :: x :: B)).sum=(gas (A ++ x :: y :: B)).sum + 1∧mx (gas (A ++ x :: y :: B))≤mx (gas (A ++ y :: x :: B))∧mx (gas (A ++ y :: x :: B)) - 1≤mx (gas (A ++ x :: y :: B))∧1≤mx (gas (A ++ y :: x :: B))∧1≤(gas (A ++ y :: x :: B)).sum:=by
 have e:gf (A ++ [y] ++ [x]) B=gf (A ++ [x] ++ [y]) B:=gf_perm B (by
  simp only [List.append_assoc]
  exact List.Perm.append_left A (List.Perm.swap x y []))
 have c1:cnt (A ++ [y]) x=cnt A x + 1:=by rw [cnt_snoc,if_pos h]
 have c2:cnt (A ++ [x]) y=cnt A y:=by rw [cnt_snoc,if_neg (by rw [lt2_asym _ _ h]; simp)]; rfl
 have c3:=cnt_le h A
 have nn:∀ l A,(0:Int)≤(gf A l).sum:=by
  intro l
  induction l with
  | nil=>intro A; exact Int.le_refl _
  | cons z l ih=>intro A; have:=ih (A ++ [z]); rw [gf,List.sum_cons]; omega
 have n1:=nn A []
 have n2:=nn B (A ++ [x] ++ [y])
 rw [mx_gas,mx_gas]
 simp only [gas_gf,Yay,gf,List.nil_append,c1,c2,e,List.sum_append,List.sum_cons,Yaf]
 have m1:=Ybg (gf [] A)
 have m2:=Ybg (gf (A ++ [x] ++ [y]) B)
 simp only [mxr,List.foldr_cons] at m1 m2 ⊢
 omega
end DW
end
section
set_option autoImplicit false
namespace DW
open PySem
end DW
end
section
set_option autoImplicit false
namespace DW.K03
open PySem DW
mutual
theorem eqD_self:∀ (n:Nat) (d:D),flat n d=true→eqD d d=true
 | n,.non,_=>rfl
 | n,.bl b,_=>by simp [eqD]
 | n,.int i,_=>by simp [eqD]
 | n,.str x,_=>by simp [eqD]
 | 0,.tup ds,h=>by simp [flat] at h
 | n + 1,.tup ds,h=>by rw [eqD]; exact Wab n ds (by simpa [flat] using h)
 | 0,.lst ds,h=>by simp [flat] at h
 | n + 1,.lst ds,h=>by rw [eqD]; exact Wab n ds (by simpa [flat] using h)
 | n,.ro ds,h=>by simp [flat] at h
 | n,.loc ds,h=>by simp [flat] at h
 | n,.dic ks ds,h=>by simp [flat] at h
theorem Wab:∀ (n:Nat) (ds:List D),flats n ds=true→eqDs ds ds=true
 | n,[],_=>rfl
 | n,d :: ds,h=>by
  simp only [flats,Bool.and_eq_true] at h
  simp [eqDs,eqD_self n d h.1,Wab n ds h.2]
end
end DW.K03
end
section
set_option autoImplicit false
namespace DW
open PySem DW.K03
mutual
noncomputable def good (μ:Mem):D→Bool
 | .str x=>x.all (· < 1114112)
 | .tup ds=>goods μ ds
 | .lst ds=>goods μ ds
 | .dic _ _=>false
 | .loc n=>dicB μ n
 | .ro _=>false
 | .fdc _ _=>false
 | _=>true
noncomputable def goods (μ:Mem):List D→Bool
 | []=>true
 | d :: ds=>good μ d && goods μ ds
end
end DW
end
section
set_option autoImplicit false
namespace DW
open PySem
def sp_is_whole:DSp:=fun ds μ Q=>match ds with
 | [.int _]=>Q (.bl true) μ
 | [.loc n]=>dicB μ n=true∧Q (.bl false) μ
 | [.ro _]=>False
 | [.fdc _ _]=>False
 | [_]=>Q (.bl false) μ
 | _=>False
def n_is_whole:List Str:=["thing"]
noncomputable def i_is_whole:Ss:=(.cons (.ret (.and (.isin (.var 0) "int") (.not (.isin (.var 0) "bool")))) .nil)
theorem k_is_whole:Keeps n_is_whole i_is_whole sp_is_whole:=by
 have e:sp_is_whole=spL_whole:=rfl
 rw [e]; exact kL_whole
end DW
end
section
set_option autoImplicit false
namespace DW
open PySem DW.K03
theorem Vh {μ ν:Mem} {n:Nat} (h:Yr μ n):Yr (μ ++ ν) n:=by
 obtain ⟨c,h⟩:=h
 exact ⟨c,by rw [List.getElem?_append_left (List.getElem?_eq_some_iff.mp h).1]; exact h⟩
structure LL (μ:Mem) (b n:Nat) (ls:List Nat) (rs:List (List Itm)):Prop where
 lo:b≤n
 at_:μ[n]? = some (.lst (ls.map D.loc))
 len:ls.length=rs.length
 sub:∀ l∈ls,b≤l∧l≠n
 row:∀ (i l:Nat) (r:List Itm),ls[i]? = some l→rs[i]? = some r→μ[l]? = some (.lst (r.map itD))
theorem LL.app {μ:Mem} {b n:Nat} {ls:List Nat} {rs:List (List Itm)} (h:LL μ b n ls rs) (ν:Mem):LL (μ ++ ν) b n ls rs :=
 ⟨h.lo,by rw [List.getElem?_append_left (List.getElem?_eq_some_iff.mp h.at_).1]; exact h.at_,h.len,h.sub,fun i l r h1 h2=>by
  have:=h.row i l r h1 h2
  rw [List.getElem?_append_left (List.getElem?_eq_some_iff.mp this).1]; exact this⟩
end DW
end
section
set_option autoImplicit false
namespace DW
open PySem
theorem Zbd (μ:Mem) (n:Nat) (ds:List D):thaw μ (n + 1) (.tup ds) = .tup (ds.map (thaw μ n)):=rfl
theorem thaw_lst (μ:Mem) (n:Nat) (ds:List D):thaw μ (n + 1) (.lst ds) = .lst (ds.map (thaw μ n)):=rfl
theorem Xbd {μ:Mem} {k:Nat} {ds:List D} (h:μ[k]? = some (.lst ds)) (n:Nat):thaw μ (n + 1) (.loc k) = .lst (ds.map (thaw μ n)):=by
 show (match μ[k]? with | some (.lst ds)=>D.lst (ds.map (thaw μ n)) | _=>.loc k)=_
 rw [h]
theorem thaw_int (μ:Mem) (n:Nat) (i:Int):thaw μ n (.int i) = .int i:=by cases n <;> rfl
theorem Ybd {α:Type} (μ:Mem) (n:Nat) (f:α→D) (h:∀ x,thaw μ n (f x)=f x) (l:List α):(l.map f).map (thaw μ n)=l.map f:=by
 rw [List.map_map]; exact List.map_congr_left fun x _=>h x
theorem Vaq {x y:D} {μ:Mem} {Q:QD} (h1:flat 60 x=true) (h2:flat 60 y=true) (h:Q (.bl (!eqD x y)) μ):wCmp .NotEq x y μ Q:=by
 unfold wCmp
 cases x with
 | loc n=>simp [flat] at h1
 | _=>exact ⟨h1,h2,h⟩
end DW
end
section
set_option autoImplicit false
namespace DW
open PySem
def nL_box2:List Str:=["script","k","here","number","j","part"]
noncomputable def iL_box2:Ss:=(.cons (.set 2 (.bin .Add (.bin .Mult (.cst (.int 7919)) (.var 1)) (.cst (.int 13)))) (.cons (.ite (.cmp .Lt (.var 1) (.blt "len" (.cons (.var 0) .nil))) (.cons (.set 2 (.idx (.var 0) (.var 1))) .nil) .nil) (.cons (.ite (.cmp .Eq (.bin .Mod (.var 2) (.cst (.int 2))) (.cst (.int 0))) (.cons (.ret (.lst true (.cons (.bin .FloorDiv (.var 2) (.cst (.int 2))) .nil))) .nil) .nil) (.cons (.set 3 (.cst (.int 0))) (.cons (.for_ [4] false (.rng (.cons (.cst (.int 16)) .nil)) (.cons (.set 5 (.bin .Mod (.bin .Add (.bin .Add (.bin .Mult (.bin .Mod (.var 2) (.cst (.int 2147483647))) (.cst (.int 48271))) (.bin .Mult (.cst (.int 7919)) (.var 4))) (.cst (.int 1))) (.cst (.int 2147483647)))) (.cons (.set 5 (.bin .Mod (.bin .Mult (.var 5) (.var 5)) (.cst (.int 2147483629)))) (.cons (.set 3 (.bin .Add (.bin .Mult (.var 3) (.cst (.int 2147483647))) (.bin .Mod (.bin .Mult (.var 5) (.bin .Add (.var 5) (.cst (.int 13)))) (.cst (.int 2147483647))))) .nil)))) (.cons (.ret (.lst true (.cons (.var 3) .nil))) .nil))))))
theorem Va0 (ns:List Int) (k c:Int) (μ:Mem) (Q:QD) (h:∀ b,Q (.loc μ.length) (μ ++ [.lst [.int b]])) :
  wSs (.cons (.ite (.cmp .Eq (.bin .Mod (.var 2) (.cst (.int 2))) (.cst (.int 0))) (.cons (.ret (.lst true (.cons (.bin .FloorDiv (.var 2) (.cst (.int 2))) .nil))) .nil) .nil) (.cons (.set 3 (.cst (.int 0))) (.cons (.for_ [4] false (.rng (.cons (.cst (.int 16)) .nil)) (.cons (.set 5 (.bin .Mod (.bin .Add (.bin .Add (.bin .Mult (.bin .Mod (.var 2) (.cst (.int 2147483647))) (.cst (.int 48271))) (.bin .Mult (.cst (.int 7919)) (.var 4))) (.cst (.int 1))) (.cst (.int 2147483647)))) (.cons (.set 5 (.bin .Mod (.bin .Mult (.var 5) (.var 5)) (.cst (.int 2147483629)))) (.cons (.set 3 (.bin .Add (.bin .Mult (.var 3) (.cst (.int 2147483647))) (.bin .Mod (.bin .Mult (.var 5) (.bin .Add (.var 5) (.cst (.int 13)))) (.cst (.int 2147483647))))) .nil)))) (.cons (.ret (.lst true (.cons (.var 3) .nil))) .nil))))
   (topZ Q) [some (.ro (ns.map D.int)),some (.int k),some (.int c),none,none,none] μ:=by
 simp [wSs,wS,wT,wE,wEs,wI,topZ,wBin,wCmp,flat,wBl]
 by_cases hc:eqD (.int (c % 2)) (.int 0)=true
 ·simp [hc,CDivD,lim,newL,h]
 ·simp only [hc,if_neg,Bool.false_eq_true,not_false_eq_true,wRng,Wz]
  refine ⟨by decide,by decide,?_⟩
  refine Ye (fun ds ρ μ'=>μ'=μ∧(∀ d∈ds,∃ i:Int,d = .int i∧0≤i∧i < 1000)∧∃ v w x,ρ=[some (.ro (ns.map D.int)),some (.int k),some (.int c),some (.int v),w,x]) ?_ ?_ _ _ _ ⟨rfl,?_,0,none,none,rfl⟩
  ·rintro d ds ρ μ' N hN ⟨rfl,hd,v,w,x,rfl⟩
   obtain ⟨i,rfl,i0,i1⟩:=hd d (by simp)
   refine ⟨trivial,?_⟩
   simp [Yg,wBin]
   refine ⟨.inr (by omega),.inl (by omega),?_⟩
   generalize (c % 2147483647 * 48271 + 7919 * i + 1)=z
   have hz0:0≤z % 2147483647:=by omega
   have hz1:z % 2147483647 < 2147483647:=by omega
   refine ⟨.inl (by omega),?_⟩
   generalize z % 2147483647 * (z % 2147483647)=y
   have hy0:0≤y % 2147483629:=by omega
   have hy1:y % 2147483629 < 2147483629:=by omega
   refine ⟨.inr (by omega),.inl (by omega),?_⟩
   exact hN _ _ ⟨rfl,fun d q=>hd d (by simp [q]),_,_,_,rfl⟩
  ·rintro ρ μ' ⟨rfl,-,v,w,x,rfl⟩
   refine ⟨trivial,?_⟩
   simp [lim,newL]
   exact h _
  ·intro d hd
   simp only [Zk,List.mem_map,List.mem_range] at hd
   obtain ⟨j,hj,rfl⟩:=hd
   exact ⟨_,rfl,by omega,by omega⟩
theorem kL_box2:Keeps nL_box2 iL_box2 spL_box:=by
 intro ds μ Q h
 unfold spL_box at h
 split at h
 ·obtain ⟨ns,rfl,hl,hk,h⟩:=h
  rename_i k
  unfold iL_box2
  rw [wSs,wS]
  simp only [nL_box2,Yd,wE,wBin,List.map_cons,List.map_nil,List.length_cons,List.length_nil,List.cons_append,List.nil_append,List.getElem?_cons_zero,List.getElem?_cons_succ,List.replicate,List.set_cons_succ,List.set_cons_zero]
  refine ⟨.inl (by omega),?_⟩
  rw [wSs,wS]
  simp only [wT,wE,wEs,wBlt,lenOf,Yb,Option.map_some,List.getElem?_cons_zero,List.getElem?_cons_succ,wCmp,ltD,wBl,List.length_map]
  by_cases c:k < (ns.length:Int)
  ·simp only [c,decide_true,if_true]
   have e:ixD (ns.map D.int).length k=some k.toNat:=ixD_lt hk (by simpa using c)
   have h2:k.toNat < ns.length:=by omega
   simp only [wSs,wS,wE,wIdx,Yb,e,Option.bind_some,List.getElem?_cons_zero,List.getElem?_cons_succ,List.getElem?_map,List.getElem?_eq_getElem h2,Option.map_some,List.set_cons_succ,List.set_cons_zero]
   exact Va0 ns k _ μ Q h
  ·simp only [c,decide_false,Bool.false_eq_true,if_false]
   exact Va0 ns k _ μ Q h
 ·exact h.elim
noncomputable def nxt (l:List Int):List Int:=match l with | []=>[0] | a :: r=>r.map (a + ·) ++ [0]
noncomputable def lvl (d:Nat):Nat→List Int
 | 0=>1 :: List.replicate (d - 1) 0
 | n + 1=>nxt (lvl d n)
noncomputable def tot (d n:Nat):Int:=(lvl d n).sum
theorem nxt_len {l:List Int} (h:l≠[]):(nxt l).length=l.length:=by
 cases l with
 | nil=>exact absurd rfl h
 | cons a r=>simp [nxt]
theorem lvl_len {d:Nat} (h:1≤d):∀ n,(lvl d n).length=d
 | 0=>by simp [lvl]; omega
 | n + 1=>by
  have:=lvl_len h n
  rw [lvl,nxt_len,this]
  intro z; rw [z] at this; simp at this; omega
noncomputable def lvD (l:List Int):D:=.tup (l.map D.int)
end DW
end
section
set_option autoImplicit false
namespace DW
open PySem
noncomputable def Zd (n:Nat):D:=.int (n:Int)
noncomputable def gt (l:List Int) (i:Nat):Int:=l[i]?.getD 0
noncomputable def phD (t:Nat) (S:List Nat) (x:Int):D:=.tup [Zd t,.tup (S.map Zd),.int x]
noncomputable def isPh (l:List Int) (t:Nat) (S:List Nat) (x:Int):Prop:=t < l.length∧gt l t=0∧1≤x∧2≤S.length∧S.Pairwise (· < ·)∧∀ s∈S,s < l.length∧x≤gt l s
noncomputable def sub (l:List Int) (A:List Nat) (x:Int):List Int:=(List.range l.length).map fun i=>if i∈A then gt l i - x else gt l i
noncomputable def ledF (l:List Int) (t:Nat) (S:List Nat) (x:Int):List Int:=(List.range l.length).map fun i=>if i=t then x else if i∈S then gt l i - x else gt l i
theorem gt_at {l:List Int} {i:Nat} (h:i < l.length):l[i]? = some (gt l i):=by simp [gt,h]
theorem sub_nil (l:List Int) (x:Int):sub l [] x=l:=by
 apply List.ext_getElem?
 intro i
 by_cases h:i < l.length
 ·simp [sub,h,gt]
 ·simp [sub,h,Nat.le_of_not_lt h]
theorem sub_set {l:List Int} {A:List Nat} {x:Int} {s:Nat} (hs:s < l.length):(sub l A x).set s (gt l s - x)=sub l (A ++ [s]) x:=by
 apply List.ext_getElem?
 intro i
 by_cases h:i < l.length
 ·by_cases e:i=s
  ·subst e
   rw [List.getElem?_set_self (by simpa [sub] using h)]
   simp [sub,h]
  ·rw [List.getElem?_set_ne (Ne.symm e)]
   simp [sub,h,e]
 ·simp [sub,h,Nat.le_of_not_lt h]
theorem sub_led {l:List Int} {t:Nat} {S:List Nat} {x:Int} (ht:t < l.length):(sub l S x).set t x=ledF l t S x:=by
 apply List.ext_getElem?
 intro i
 by_cases h:i < l.length
 ·by_cases e:i=t
  ·subst e
   rw [List.getElem?_set_self (by simpa [sub] using h)]
   simp [ledF,h]
  ·rw [List.getElem?_set_ne (Ne.symm e)]
   simp [ledF,sub,h,e]
 ·simp [sub,ledF,h,Nat.le_of_not_lt h]
theorem ledF_len (l:List Int) (t:Nat) (S:List Nat) (x:Int):(ledF l t S x).length=l.length:=by simp [ledF]
def sp_is_below:DSp:=fun ds μ Q=>match ds with
 | [.int i,.int n]=>Q (.bl (decide (0≤i∧i < n))) μ
 | _=>False
def sp_are_sources:DSp:=fun ds μ Q=>∃ (S:List Nat) (l:List Int) (x:Int),ds=[.tup (S.map Zd),lvD l,.int x]∧2≤S.length∧S.Pairwise (· < ·)∧(∀ s∈S,s < l.length∧x≤gt l s)∧Q (.bl true) μ
def sp_is_phase:DSp:=fun ds μ Q=>∃ (t:Nat) (S:List Nat) (x:Int) (l:List Int),ds=[phD t S x,lvD l]∧isPh l t S x∧Q (.bl true) μ
def sp_led:DSp:=fun ds μ Q=>∃ (l:List Int) (t:Nat) (S:List Nat) (x:Int),ds=[lvD l,phD t S x]∧isPh l t S x∧∀ c,Q (lvD (ledF l t S x)) (μ ++ [c])
def n_is_below:List Str:=["thing","many"]
noncomputable def i_is_below:Ss:=(.cons (.ret (.and (.call "is_whole" sp_is_whole (.cons (.var 0) .nil)) (.chain .LtE .Lt (.cst (.int 0)) (.var 0) (.var 1)))) .nil)
def n_are_sources:List Str:=["thing","layout","times","last","drive"]
noncomputable def i_are_sources:Ss:=(.cons (.ite (.or (.not (.isin (.var 0) "tuple")) (.cmp .Lt (.blt "len" (.cons (.var 0) .nil)) (.cst (.int 2)))) (.cons (.ret (.cst (.bl false))) .nil) .nil) (.cons (.set 3 (.neg (.cst (.int 1)))) (.cons (.for_ [4] false (.seq (.var 0)) (.cons (.ite (.or (.not (.call "is_below" sp_is_below (.cons (.var 4) (.cons (.blt "len" (.cons (.var 1) .nil)) .nil)))) (.or (.cmp .LtE (.var 4) (.var 3)) (.cmp .Lt (.idx (.var 1) (.var 4)) (.var 2)))) (.cons (.ret (.cst (.bl false))) .nil) .nil) (.cons (.set 3 (.var 4)) .nil))) (.cons (.ret (.cst (.bl true))) .nil))))
def n_is_phase:List Str:=["thing","layout"]
noncomputable def i_is_phase:Ss:=(.cons (.ite (.or (.not (.isin (.var 0) "tuple")) (.cmp .NotEq (.blt "len" (.cons (.var 0) .nil)) (.cst (.int 3)))) (.cons (.ret (.cst (.bl false))) .nil) .nil) (.cons (.ite (.or (.not (.call "is_below" sp_is_below (.cons (.idx (.var 0) (.cst (.int 0))) (.cons (.blt "len" (.cons (.var 1) .nil)) .nil)))) (.cmp .NotEq (.idx (.var 1) (.idx (.var 0) (.cst (.int 0)))) (.cst (.int 0)))) (.cons (.ret (.cst (.bl false))) .nil) .nil) (.cons (.ite (.or (.not (.call "is_whole" sp_is_whole (.cons (.idx (.var 0) (.cst (.int 2))) .nil))) (.cmp .Lt (.idx (.var 0) (.cst (.int 2))) (.cst (.int 1)))) (.cons (.ret (.cst (.bl false))) .nil) .nil) (.cons (.ret (.call "are_sources" sp_are_sources (.cons (.idx (.var 0) (.cst (.int 1))) (.cons (.var 1) (.cons (.idx (.var 0) (.cst (.int 2))) .nil))))) .nil))))
def n_led:List Str:=["layout","phase","told","drive"]
noncomputable def i_led:Ss:=(.cons (.ite (.not (.call "is_phase" sp_is_phase (.cons (.var 1) (.cons (.var 0) .nil)))) (.cons .nev .nil) .nil) (.cons (.set 2 (.blt "mlist" (.cons (.var 0) .nil))) (.cons (.for_ [3] false (.seq (.idx (.var 1) (.cst (.int 1)))) (.cons (.augIx .Sub (.var 2) (.var 3) (.idx (.var 1) (.cst (.int 2)))) .nil)) (.cons (.setIx (.var 2) (.idx (.var 1) (.cst (.int 0))) (.idx (.var 1) (.cst (.int 2)))) (.cons (.ret (.blt "tuple" (.cons (.var 2) .nil))) .nil)))))
theorem k_is_below:Keeps n_is_below i_is_below sp_is_below:=by
 intro ds μ Q h
 unfold sp_is_below at h
 split at h
 ·rename_i i n
  simp [i_is_below,n_is_below,Yd,topZ,wSs,wS,wE,wEs,sp_is_whole,wBl,wCmp,ltD]
  by_cases h0:0≤i
  ·simpa [h0] using h
  ·simpa [h0] using h
 ·exact h.elim
theorem k_are_sources:Keeps n_are_sources i_are_sources sp_are_sources:=by
 rintro ds μ Q ⟨S,l,x,rfl,h2,hs,hg,h⟩
 have h2':¬ ((S.length:Int) < 2):=by omega
 simp [i_are_sources,n_are_sources,Yd,topZ,wSs,wS,wT,wE,wEs,wI,wSeq,Wx,tyOf,isTy,wBl,wBlt,lenOf,Yb,wCmp,ltD,h2']
 refine Ye (fun ds ρ μ'=>∃ (T:List Nat) (b:Int) (a:Option D),ds=T.map Zd∧T.Pairwise (· < ·)∧(∀ s∈T,s < l.length∧x≤gt l s∧b < (s:Int))∧ρ=[some (.tup (S.map Zd)),some (lvD l),some (.int x),some (.int b),a]∧μ'=μ) ?_ ?_ _ _ _ ⟨S,-1,none,rfl,hs,fun s hs'=>⟨(hg s hs').1,(hg s hs').2,by omega⟩,rfl,rfl⟩
 ·rintro d ds ρ μ1 N hN ⟨T,b,a,e,hs,hg,rfl,rfl⟩
  cases T with
  | nil=>simp at e
  | cons s T =>
   simp only [List.map_cons,List.cons.injEq] at e
   obtain ⟨rfl,rfl⟩:=e
   obtain ⟨g1,g2,g3⟩:=hg s (by simp)
   refine ⟨trivial,?_⟩
   have g4:¬ ((s:Int)≤b):=by omega
   have g6:gt l s=l[s]:=by simp [gt,g1]
   have g5:¬ (l[s] < x):=by omega
   simp [Yg,wT,wE,wEs,sp_is_below,Zd,wTru,truth,wCmp,wBl,lvD,lenOf,Yb,wBlt,g1,g4,wIdx,ixD,ltD,g5]
   exact hN _ _ ⟨T,(s:Int),some (Zd s),rfl,(List.pairwise_cons.mp hs).2,fun s' hs'=>⟨(hg s' (by simp [hs'])).1,(hg s' (by simp [hs'])).2.1,by have:=(List.pairwise_cons.mp hs).1 s' hs'; omega⟩,rfl,rfl⟩
 ·rintro ρ μ1 ⟨T,b,a,e,hs,hg,rfl,rfl⟩
  exact ⟨trivial,h⟩
theorem k_is_phase:Keeps n_is_phase i_is_phase sp_is_phase:=by
 rintro ds μ Q ⟨t,S,x,l,rfl,⟨h1,h2,h3,h4,h5,h6⟩,h⟩
 have h3':¬ (x < 1):=by omega
 have e2:l[t]=0:=by simpa [gt,h1] using h2
 simp [i_is_phase,n_is_phase,Yd,topZ,wSs,wS,wT,wE,wEs,Wx,tyOf,isTy,wBl,wBlt,lenOf,Yb,wCmp,flat,eqD,wIdx,ixD,phD,lvD,sp_is_below,sp_is_whole,wTru,truth,Zd,h1,e2,ltD,h3']
 exact ⟨S,l,x,rfl,h4,h5,h6,h⟩
theorem k_led:Keeps n_led i_led sp_led:=by
 rintro ds μ Q ⟨l,t,S,x,rfl,hp,h⟩
 simp only [i_led,n_led,Yd,topZ,wSs,wS,wT,wE,wEs,List.map_cons,List.map_nil,List.length_cons,List.length_nil,List.cons_append,List.nil_append,List.getElem?_cons_zero,List.getElem?_cons_succ]
 refine ⟨t,S,x,l,rfl,hp,?_⟩
 obtain ⟨h1,h2,h3,h4,h5,h6⟩:=hp
 simp [wTru,truth,wBlt,Yb,lvD,newL,wI,wE,wIdx,phD,ixD,wSeq]
 refine Ye (fun ds ρ μ'=>∃ (A T:List Nat) (a:Option D),S=A ++ T∧ds=T.map Zd∧ρ=[some (.tup (l.map D.int)),some (phD t S x),some (.loc μ.length),a]∧μ'=μ ++ [.lst ((sub l A x).map D.int)]) ?_ ?_ _ _ _ ⟨[],S,none,rfl,rfl,by simp [phD],by rw [sub_nil]⟩
 ·rintro d ds ρ μ1 N hN ⟨A,T,a,rfl,e,rfl,rfl⟩
  cases T with
  | nil=>simp at e
  | cons s T =>
   simp only [List.map_cons,List.cons.injEq] at e
   obtain ⟨rfl,rfl⟩:=e
   obtain ⟨g1,g2⟩:=h6 s (by simp)
   have hA:s ∉ A:=fun z=>by
    have:=(List.pairwise_append.mp h5).2.2 s z s (by simp)
    omega
   have ls:s < (sub l A x).length:=by simpa [sub] using g1
   have es:(sub l A x)[s]? = some (gt l s):=by simp [sub,g1,hA]
   refine ⟨trivial,?_⟩
   simp [Yg,Zd,wGetI,es,wE,wIdx,phD,Yb,ixD,Xar,Wo,g1]
   rw [if_pos ls]
   refine hN _ _ ⟨A ++ [s],T,some (Zd s),by simp,rfl,by simp [phD,Zd],?_⟩
   rw [← sub_set g1]
   simp
 ·rintro ρ μ1 ⟨A,T,a,rfl,e,rfl,rfl⟩
  have:T=[]:=by simpa using e.symm
  subst this
  rw [List.append_nil] at *
  refine ⟨trivial,?_⟩
  have lt:t < (sub l A x).length:=by simpa [sub] using h1
  simp [wE,wEs,wIdx,phD,Yb,ixD,Zd,Wo,wBlt]
  rw [if_pos lt]
  have:=h (.lst ((ledF l t A x).map D.int))
  rw [← sub_led h1] at this
  simpa [lvD] using this
noncomputable def Dom (d p:Nat) (l:List Int):Prop:=∀ K:List Nat,K.Nodup→(∀ i∈K,i < d)→(K.map (gt l)).sum≤((lvl d p).take K.length).sum
theorem nxt_nn {l:List Int} (h:∀ x∈l,0≤x):∀ x∈nxt l,0≤x:=by
 cases l with
 | nil=>simp [nxt]
 | cons a r =>
  intro x hx
  simp only [nxt,List.mem_append,List.mem_map,List.mem_singleton] at hx
  rcases hx with ⟨y,hy,rfl⟩ | rfl
  ·have:=h a (by simp); have:=h y (by simp [hy]); omega
  ·omega
theorem lvl_nn (d:Nat):∀ n,∀ x∈lvl d n,0≤x
 | 0=>by
  intro x hx
  simp only [lvl,List.mem_cons] at hx
  rcases hx with rfl | hx
  ·omega
  ·have:=List.eq_of_mem_replicate hx; omega
 | n + 1=>nxt_nn (lvl_nn d n)
theorem Xbe:∀ {l:List Int},(∀ x∈l,0≤x)→0≤l.sum
 | [],_=>by simp
 | a :: l,h=>by
  have:=Xbe (l:=l) fun x hx=>h x (by simp [hx])
  have:=h a (by simp)
  rw [List.sum_cons]; omega
theorem take_mono {l:List Int} (h:∀ x∈l,0≤x) {a b:Nat} (hab:a≤b):(l.take a).sum≤(l.take b).sum:=by
 have e:l.take b=l.take a ++ (l.drop a).take (b - a):=by
  rw [← List.take_append_drop a (l.take b),List.take_take,Nat.min_eq_left hab,List.drop_take]
 rw [e,List.sum_append]
 have:=Xbe (l:=(l.drop a).take (b - a)) fun x hx=>h x (List.mem_of_mem_drop (List.mem_of_mem_take hx))
 omega
theorem perm_sum {l l':List Int} (h:l.Perm l'):l.sum=l'.sum:=by
 induction h with
 | nil=>rfl
 | cons x _ ih=>simp only [List.sum_cons]; omega
 | swap x y l=>simp only [List.sum_cons]; omega
 | trans _ _ h1 h2=>omega
theorem Ybe {l:List Int} (hl:∀ x∈l,0≤x) {K:List Nat} (nd:K.Nodup) (hK:∀ i∈K,i < l.length):(K.map (gt l)).sum≤l.sum:=by
 have pm:(List.range l.length).Perm (K ++ (List.range l.length).filter fun i=>decide (i ∉ K)):=by
  refine (List.perm_ext_iff_of_nodup List.nodup_range ?_).mpr fun i=>?_
  ·refine List.nodup_append.mpr ⟨nd,List.Pairwise.filter _ List.nodup_range,fun a ha b hb e=>?_⟩
   subst e
   simp at hb
   exact hb.2 ha
  ·simp only [List.mem_range,List.mem_append,List.mem_filter,decide_eq_true_eq]
   constructor
   ·intro h
    by_cases c:i∈K
    ·exact .inl c
    ·exact .inr ⟨h,c⟩
   ·rintro (h | h)
    ·exact hK i h
    ·exact h.1
 have e:l=(List.range l.length).map (gt l):=by
  apply List.ext_getElem?
  intro i
  by_cases h:i < l.length
  ·simp [h,gt]
  ·simp [h,Nat.le_of_not_lt h]
 have s:=perm_sum (pm.map (gt l))
 rw [← e,List.map_append,List.sum_append] at s
 have:0≤(((List.range l.length).filter fun i=>decide (i ∉ K)).map (gt l)).sum:=by
  refine Xbe fun x hx=>?_
  obtain ⟨i,hi,rfl⟩:=List.mem_map.mp hx
  simp at hi
  have:=gt_at hi.1
  exact hl _ (List.mem_of_getElem? this)
 omega
theorem Dom.one {d:Nat} {l:List Int} (hd:1≤d) (hl:l.length=d) (h0:∀ x∈l,0≤x) (h1:l.sum≤1):Dom d 0 l:=by
 intro K nd hK
 rcases Nat.eq_zero_or_pos K.length with z | z
 ·have:K=[]:=List.length_eq_zero_iff.mp z
  subst this; simp
 ·have:=Ybe h0 nd fun i hi=>by rw [hl]; exact hK i hi
  have e:((lvl d 0).take 1).sum=1:=by simp [lvl]
  have:=take_mono (lvl_nn d 0) (show 1≤K.length from z)
  omega
theorem Dom.sum {d p:Nat} {l:List Int} (hd:1≤d) (hl:l.length=d) (D:Dom d p l):l.sum≤tot d p:=by
 have:=D (List.range d) List.nodup_range fun i hi=>List.mem_range.mp hi
 have e:l=(List.range l.length).map (gt l):=by
  apply List.ext_getElem?
  intro i
  by_cases h:i < l.length
  ·simp [h,gt]
  ·simp [h,Nat.le_of_not_lt h]
 rw [hl] at e
 rw [← e,List.length_range,List.take_of_length_le (by rw [lvl_len hd]; omega)] at this
 exact this
end DW
end
section
set_option autoImplicit false
namespace DW
open PySem
section
variable {κ:Type} [DecidableEq κ]
theorem Vab:∀ {ks:List κ} {ds:List D} {k:κ},k ∉ ks→Yn ks ds k=none
 | [],ds,k,_=>by unfold Yn; rfl
 | k' :: ks,[],k,_=>by unfold Yn; rfl
 | k' :: ks,d :: ds,k,h=>by
  simp only [List.mem_cons,not_or] at h
  unfold Yn
  rw [if_neg (Ne.symm h.1)]
  exact Vab h.2
theorem Zao:∀ {ks:List κ} {ds:List D} {k:κ},ds.length=ks.length→k∈ks→∃ d,Yn ks ds k=some d
 | [],ds,k,_,h=>by cases h
 | k' :: ks,[],k,hl,_=>by simp at hl
 | k' :: ks,d :: ds,k,hl,h=>by
  unfold Yn
  by_cases c:k'=k
  ·rw [if_pos c]; exact ⟨d,rfl⟩
  ·rw [if_neg c]
   rcases List.mem_cons.mp h with rfl | h
   ·exact absurd rfl c
   ·exact Zao (by simpa using hl) h
theorem Za0:∀ {ks:List κ} {ds:List D} {k j:κ} {v:D},ds.length=ks.length→k ∉ ks→Yn (ks ++ [k]) (ds ++ [v]) j=if j=k then some v else Yn ks ds j
 | [],ds,k,j,v,hl,_=>by
  have:ds=[]:=by simpa using hl
  subst this
  simp only [List.nil_append,Yn]
  by_cases c:k=j
  ·rw [if_pos c,if_pos c.symm]
  ·rw [if_neg c,if_neg (Ne.symm c)]
 | k' :: ks,[],k,j,v,hl,_=>by simp at hl
 | k' :: ks,d :: ds,k,j,v,hl,h=>by
  simp only [List.mem_cons,not_or] at h
  simp only [List.cons_append,Yn]
  by_cases c:k'=j
  ·subst c
   rw [if_pos rfl,if_neg (Ne.symm h.1),if_pos rfl]
  ·rw [if_neg c,if_neg c]
   exact Za0 (by simpa using hl) h.2
theorem Waz : ∀ {ks : List κ} {ds : List D} {k j : κ} {v : D}, ds.length = ks.length → k ∈ ks → Yn ks (List.zipWith (fun k' d' => if k' = k then v else d') ks ds) j = if j = k then some v else Yn ks ds j
  | [], ds, k, j, v, hl, h => by cases h
  | k' :: ks, [], k, j, v, hl, _ => by simp at hl
  | k' :: ks, d :: ds, k, j, v, hl, h => by
    simp only [List.zipWith_cons_cons, Yn]
    by_cases c : k' = j
    · subst c
      rw [if_pos rfl]
      by_cases e : k' = k
      · rw [if_pos e, if_pos e]
      · rw [if_neg e, if_neg e, if_pos rfl]
    · rw [if_neg c, if_neg c]
      by_cases hk : k ∈ ks
      · exact Waz (by simpa using hl) hk
      · rcases List.mem_cons.mp h with rfl | h
        · rw [if_neg (Ne.symm c)]
          have e : ∀ (ls : List κ) (es : List D), k ∉ ls → es.length = ls.length → List.zipWith (fun k' d' => if k' = k then v else d') ls es = es := by
            intro ls
            induction ls with
            | nil => intro es _ h; have : es = [] := by simpa using h
                     subst this; rfl
            | cons l ls ih =>
              intro es hn hl
              cases es with
              | nil => simp at hl
              | cons x es =>
                simp only [List.mem_cons, not_or] at hn
                rw [List.zipWith_cons_cons, if_neg (Ne.symm hn.1), ih es hn.2 (by simpa using hl)]
          rw [e ks ds hk (by simpa using hl)]
        · exact absurd h hk
theorem Vaz {ks:List κ} {ds:List D} {k j:κ} {v:D} (hl:ds.length=ks.length):Yn (Zn ks k) (Xr ks ds k v) j=if j=k then some v else Yn ks ds j:=by
 unfold Zn Xr
 by_cases h:k∈ks
 ·rw [if_pos h,if_pos h]; exact Waz hl h
 ·rw [if_neg h,if_neg h]; exact Za0 hl h
theorem dput_len {ks:List κ} {ds:List D} {k:κ} {v:D} (hl:ds.length=ks.length):(Xr ks ds k v).length=(Zn ks k).length:=by
 unfold Zn Xr
 by_cases h:k∈ks
 ·rw [if_pos h,if_pos h]; simp [hl]
 ·rw [if_neg h,if_neg h]; simp [hl]
end
noncomputable def IsDI (ks:List DKey) (ds:List D) (F:Int→Option D):Prop:=∃ is:List Int,ks=is.map Sum.inl∧is.Nodup∧ds.length=is.length∧∀ e,Yn ks ds (.inl e)=F e
theorem inl_mem {is:List Int} {e:Int}:(Sum.inl e:DKey)∈is.map Sum.inl↔e∈is:=by simp
theorem IsDI.some_iff {is:List Int} {ds:List D} {F:Int→Option D} (hl:ds.length=is.length) (h:∀ e,Yn (is.map (Sum.inl:Int→DKey)) ds (.inl e)=F e) (e:Int):e∈is↔F e≠none:=by
 constructor
 ·intro hm
  obtain ⟨d,hd⟩:=Zao (ks:=is.map (Sum.inl:Int→DKey)) (ds:=ds) (by simpa using hl) (inl_mem.mpr hm)
  rw [← h,hd]; simp
 ·intro hn
  by_cases hm:e∈is
  ·exact hm
  ·exact absurd ((h e).symm.trans (Vab (fun z=>hm (inl_mem.mp z)))) hn
theorem IsDI.has {ks:List DKey} {ds:List D} {F:Int→Option D} (h:IsDI ks ds F) (e:Int):hasK ks (.inl e)=(F e).isSome:=by
 obtain ⟨is,rfl,_,hl,hf⟩:=h
 have:=IsDI.some_iff hl hf e
 rw [Bool.eq_iff_iff,Vv,inl_mem,this]
 cases F e <;> simp
theorem IsDI.put {ks:List DKey} {ds:List D} {F:Int→Option D} (h:IsDI ks ds F) (e:Int) (v:D):IsDI (Zn ks (.inl e)) (Xr ks ds (.inl e) v) (fun x=>if x=e then some v else F x):=by
 obtain ⟨is,rfl,nd,hl,hf⟩:=h
 have hl':ds.length=(is.map (Sum.inl:Int→DKey)).length:=by simpa using hl
 refine ⟨if e∈is then is else is ++ [e],?_,?_,?_,fun x=>?_⟩
 ·unfold Zn
  by_cases hm:e∈is
  ·rw [if_pos hm,if_pos (inl_mem.mpr hm)]
  ·rw [if_neg hm,if_neg (fun z=>hm (inl_mem.mp z)),List.map_append]; rfl
 ·by_cases hm:e∈is
  ·rw [if_pos hm]; exact nd
  ·rw [if_neg hm,List.nodup_append]
   exact ⟨nd,by simp,fun a ha b hb=>by
    have:b=e:=by simpa using hb
    subst this
    rintro rfl
    exact hm ha⟩
 ·rw [dput_len hl']
  unfold Zn
  by_cases hm:e∈is
  ·rw [if_pos hm,if_pos (inl_mem.mpr hm)]; simp
  ·rw [if_neg hm,if_neg (fun z=>hm (inl_mem.mp z))]; simp
 ·rw [Vaz hl',hf]
  show _=if x=e then some v else F x
  by_cases c:x=e
  ·rw [if_pos c,if_pos (by rw [c])]
  ·rw [if_neg c,if_neg (fun z=>c (Sum.inl.inj z))]
theorem IsDI.one (k:Int) (v:D):IsDI [.inl k] [v] (fun e=>if e=k then some v else none):=by
 refine ⟨[k],rfl,by simp,rfl,fun e=>?_⟩
 simp only [Yn]
 by_cases c:e=k
 ·rw [if_pos c,if_pos (by rw [c])]
 ·rw [if_neg c,if_neg (fun z=>c (Sum.inl.inj z).symm)]
noncomputable def IsDT (ks:List (List DKey)) (ds:List D) (G:Int→Int→Option D):Prop:=ds.length=ks.length∧∀ a b,Yn ks ds [.inl a,.inl b]=G a b
theorem IsDT.nil:IsDT [] [] (fun _ _=>none):=⟨rfl,fun a b=>rfl⟩
theorem IsDT.has {ks:List (List DKey)} {ds:List D} {G:Int→Int→Option D} (h:IsDT ks ds G) (a b:Int):hasK ks [.inl a,.inl b]=(G a b).isSome:=by
 obtain ⟨hl,hf⟩:=h
 rw [Bool.eq_iff_iff,Vv,← hf]
 constructor
 ·intro hm
  obtain ⟨d,hd⟩:=Zao hl hm
  rw [hd]; rfl
 ·intro hs
  by_cases hm:[Sum.inl a,Sum.inl b]∈ks
  ·exact hm
  ·rw [Vab hm] at hs; cases hs
theorem IsDT.put {ks:List (List DKey)} {ds:List D} {G:Int→Int→Option D} (h:IsDT ks ds G) (a b:Int) (v:D):IsDT (Zn ks [.inl a,.inl b]) (Xr ks ds [.inl a,.inl b] v) (fun x y=>if x=a∧y=b then some v else G x y):=by
 obtain ⟨hl,hf⟩:=h
 refine ⟨dput_len hl,fun x y=>?_⟩
 rw [Vaz hl,hf]
 show _=if x=a∧y=b then some v else G x y
 by_cases c:x=a∧y=b
 ·rw [if_pos c,if_pos (by rw [c.1,c.2])]
 ·rw [if_neg c,if_neg (fun z=>c (by simpa using z))]
end DW
end
section
set_option autoImplicit false
namespace DW.LYR
open PySem DW DW.K03
noncomputable def pick (L:List Nat) (n:Nat):List Nat:=((List.range L.length).filter fun k=>decide ((n:Int) / 2 ^ k % 2=1)).map fun k=>L[k]?.getD 0
noncomputable def ways (L:List Nat):List (List Nat):=((List.range (2 ^ L.length)).map (pick L)).filter fun w=>decide (1 < w.length)
noncomputable def Good (L w:List Nat):Prop:=2≤w.length∧w.Pairwise (· < ·)∧∀ x∈w,x∈L
theorem pick_good {L:List Nat} (hL:L.Pairwise (· < ·)) (n:Nat) (h:1 < (pick L n).length):Good L (pick L n):=by
 refine ⟨h,?_,?_⟩
 ·unfold pick
  rw [List.pairwise_map]
  refine List.Pairwise.imp_of_mem (R:=(· < ·)) ?_ (List.Pairwise.filter _ List.pairwise_lt_range)
  intro a b ha hb hab
  have hb':=List.mem_range.mp (List.mem_filter.mp hb).1
  have ha':a < L.length:=by omega
  have:=List.pairwise_iff_getElem.mp hL a b ha' hb' hab
  simpa [ha',hb'] using this
 ·intro x hx
  unfold pick at hx
  obtain ⟨k,hk,rfl⟩:=List.mem_map.mp hx
  have hk':=List.mem_range.mp (List.mem_filter.mp hk).1
  simp [hk']
theorem Waq {L w:List Nat} (hL:L.Pairwise (· < ·)) (h:w∈ways L):Good L w:=by
 unfold ways at h
 obtain ⟨h1,h2⟩:=List.mem_filter.mp h
 obtain ⟨n,_,rfl⟩:=List.mem_map.mp h1
 exact pick_good hL n (of_decide_eq_true h2)
noncomputable def nats (l:List Nat):List D:=l.map Zd
def spL_ways:DSp:=fun ds μ Q=>∃ L:List Nat,ds=[.lst (nats L)]∧L.length≤6∧∀ c,Q (.lst ((ways L).map fun w=>.tup (nats w))) (μ ++ [c])
def nL_ways:List Str:=["drives","found","number","way"]
noncomputable def iL_ways:Ss:=(.cons (.set 1 (.lst true .nil)) (.cons (.for_ [2] false (.rng (.cons (.bin .LShift (.cst (.int 1)) (.blt "len" (.cons (.var 0) .nil))) .nil)) (.cons (.set 3 (.blt "tuple" (.cons (.comp false 1 false [0,2] (.idx (.var 1) (.var 0)) (.rng (.cons (.blt "len" (.cons (.var 0) .nil)) .nil)) (.cons (.cmp .Eq (.bin .BitAnd (.bin .RShift (.var 2) (.var 0)) (.cst (.int 1))) (.cst (.int 1))) .nil)) .nil))) (.cons (.ite (.cmp .Gt (.blt "len" (.cons (.var 3) .nil)) (.cst (.int 1))) (.cons (.exp (.meth "append" (.var 1) (.cons (.var 3) .nil))) .nil) .nil) .nil))) (.cons (.ret (.frz (.var 1))) .nil)))
theorem Xm (n:Nat):Zk 0 n=(List.range n).map Zd:=by rw [Yav]; rfl
theorem kL_ways:Keeps nL_ways iL_ways spL_ways:=by
 rintro ds μ Q ⟨L,rfl,h6,h⟩
 have hp:2 ^ L.length≤2 ^ 6:=Nat.pow_le_pow_right (by omega) h6
 simp only [iL_ways,nL_ways,Yd,topZ,wSs,wS,wE,wEs,wI,newL,lim,wBlt,lenOf,Yb,wBin,wRng,Wz,List.map_cons,List.map_nil,List.length_cons,List.length_nil,List.cons_append,List.nil_append,List.getElem?_cons_zero,List.getElem?_cons_succ,List.replicate,List.set_cons_succ,List.set_cons_zero,Option.map_some]
 have e1:(1:Int) * 2 ^ ((nats L).length:Int).toNat=((2 ^ L.length:Nat):Int):=by simp [nats]
 rw [e1]
 clear e1
 have p0:0 < 2 ^ L.length:=Nat.pow_pos (by omega)
 refine ⟨by omega,⟨by omega,by simp [nats]; omega,by decide⟩,by omega,by omega,?_⟩
 rw [Int.toNat_natCast,Xm]
 refine Ye (fun ds ρ μ'=>∃ (j:Nat) (a b:Option D),ds=(List.range' j (2 ^ L.length - j)).map Zd∧j≤2 ^ L.length∧ρ=[some (.lst (nats L)),some (.loc μ.length),a,b]∧μ'=μ ++ [.lst ((((List.range j).map (pick L)).filter fun w=>decide (1 < w.length)).map fun w=>.tup (nats w))]) ?_ ?_ _ _ _ ⟨0,none,none,by simp [List.range_eq_range'],Nat.zero_le _,rfl,rfl⟩
 ·rintro d ds ρ μ1 N hN ⟨j,a,b,e,hj,rfl,rfl⟩
  have hjn:j < 2 ^ L.length:=by
   rcases Nat.lt_or_ge j (2 ^ L.length) with q | q
   ·exact q
   ·rw [show 2 ^ L.length - j=0 by omega] at e; simp at e
  rw [show 2 ^ L.length - j=(2 ^ L.length - (j + 1)) + 1 by omega,List.range'_succ] at e
  simp only [List.map_cons,List.cons.injEq] at e
  obtain ⟨rfl,rfl⟩:=e
  refine ⟨trivial,?_⟩
  simp only [Yg,List.set_cons_succ,List.set_cons_zero,List.getElem?_cons_zero,List.getElem?_cons_succ,nats,Option.map_some,Option.join_some,List.length_map]
  refine ⟨by omega,by omega,?_⟩
  rw [Int.toNat_natCast,Xm]
  refine Vf Zd (fun k=>decide ((j:Int) / 2 ^ k % 2=1)) (fun k=>Zd (L[k]?.getD 0)) trivial _ _ ?_ ?_
  ·intro k hk Y N' z
   have hk':k < L.length:=List.mem_range.mp hk
   have z0:(0:Int)≤(j:Int) / 2 ^ k:=Int.ediv_nonneg (by omega) (Int.le_of_lt (Int.pow_pos (by decide)))
   simp [bindC,wTs,wT,wE,wBin,wCmp,flat,eqD,wBl,Zd,z0]
   by_cases c:(j:Int) / 2 ^ k % 2=1
   ·simp [c] at z
    simp [c,wIdx,Yb,ixD,hk',Zd]
    simpa [hk',Zd] using z
   ·simp [c] at z
    simp [c]
    exact z
  ·have ep:(((List.range L.length).filter fun k=>decide ((j:Int) / 2 ^ k % 2=1)).map fun k=>Zd (L[k]?.getD 0))=nats (pick L j):=by simp [nats,pick,Function.comp_def]
   rw [List.nil_append,ep]
   simp only [wT,wE,wEs,wBlt,Yb,lenOf,Option.map_some,List.set_cons_succ,List.set_cons_zero,List.getElem?_cons_zero,List.getElem?_cons_succ,wCmp,wBl]
   have el:(nats (pick L j)).length=(pick L j).length:=by simp [nats]
   rw [el]
   by_cases c:1 < (pick L j).length
   ·have c':(1:Int) < ((pick L j).length:Int):=by omega
    simp only [c',decide_true,if_true,wSs,wS,wE,wEs,List.getElem?_cons_zero,List.getElem?_cons_succ]
    simp [isCell,Zu,Yl]
    refine ⟨?_,hN _ _ ⟨j + 1,_,_,rfl,by omega,rfl,?_⟩⟩
    ·have:=List.length_filter_le (fun w:List Nat=>decide (1 < w.length)) ((List.range j).map (pick L))
     simp only [List.length_map,List.length_range] at this
     simp only [lim]
     omega
    ·rw [List.range_succ,List.map_append,List.filter_append]
     simp [c,nats]
   ·have c':¬ ((1:Int) < ((pick L j).length:Int)):=by omega
    simp only [c',decide_false,Bool.false_eq_true,if_false,wSs]
    refine hN _ _ ⟨j + 1,_,_,rfl,by omega,rfl,?_⟩
    rw [List.range_succ,List.map_append,List.filter_append]
    simp [c,nats]
 ·rintro ρ μ1 ⟨j,a,b,e,hj,rfl,rfl⟩
  have hjn:j=2 ^ L.length:=by
   rcases Nat.lt_or_ge j (2 ^ L.length) with q | q
   ·rw [show 2 ^ L.length - j=(2 ^ L.length - (j + 1)) + 1 by omega,List.range'_succ] at e; simp at e
   ·omega
  subst hjn
  refine ⟨trivial,?_⟩
  simp [wE,wFrz]
  have:=h .gone
  simpa [ways] using this
def spL_led:DSp:=fun ds μ Q=>∃ (l:List Int) (t:Nat) (S:List Nat) (x:Int),ds=[lvD l,phD t S x]∧isPh l t S x∧l.length < 1000∧0≤x∧x < 1000∧∀ c,Q (lvD (ledF l t S x)) (μ ++ [c])
def nL_led:List Str:=["layout","phase","target","sources","times","found","drive","more"]
noncomputable def iL_led:Ss:=(.cons (.setT [2,3,4] (.var 1)) (.cons (.set 5 (.lst true .nil)) (.cons (.for_ [6] false (.rng (.cons (.blt "len" (.cons (.var 0) .nil)) .nil)) (.cons (.set 7 (.bin .Mult (.var 4) (.blt "int" (.cons (.cmp .Eq (.var 6) (.var 2)) .nil)))) (.cons (.exp (.meth "append" (.var 5) (.cons (.bin .Sub (.bin .Add (.idx (.var 0) (.var 6)) (.var 7)) (.bin .Mult (.var 4) (.blt "int" (.cons (.cmp .In (.var 6) (.var 3)) .nil)))) .nil))) .nil))) (.cons (.ret (.blt "tuple" (.cons (.var 5) .nil))) .nil))))
theorem Z5 {μ:Mem} {c c':Cell}:(μ ++ [c]).set μ.length c'=μ ++ [c']:=by simp
theorem mul01 (x:Int) (b:Bool):CMulD x (if b=true then 1 else 0):=.inr (by split <;> decide)
theorem Zaz (n:Nat):∀ S:List Nat,flats n (S.map Zd)=true
 | []=>rfl
 | a :: S=>by simp [flats,flat,Zd,Zaz n S]
theorem eq_nat (a b:Nat):eqD (.int (a:Int)) (.int (b:Int))=decide (a=b):=by
 simp only [eqD]; rw [Bool.eq_iff_iff]; simp; omega
theorem any_nat (k:Nat):∀ S:List Nat,(S.map Zd).any (fun d=>eqD d (.int (k:Int)))=decide (k∈S)
 | []=>rfl
 | a :: S=>by
  simp only [List.map_cons,List.any_cons,any_nat k S,Zd,eq_nat,List.mem_cons]
  by_cases c:k=a
  ·subst c; simp
  ·simp [c,Ne.symm c]
noncomputable def lawL (l:List Int) (t:Nat) (S:List Nat) (x:Int):List Int:=(List.range l.length).map fun i=>gt l i + x * (if i=t then 1 else 0) - x * (if i∈S then 1 else 0)
theorem lawL_eq {l:List Int} {t:Nat} {S:List Nat} {x:Int} (h:isPh l t S x):lawL l t S x=ledF l t S x:=by
 unfold lawL ledF
 refine List.map_congr_left fun i hi=>?_
 obtain ⟨h1,h2,h3,h4,h5,h6⟩:=h
 have ht:t ∉ S:=fun z=>by have:=(h6 t z).2; omega
 by_cases c:i=t
 ·subst c; simp [ht,h2]
 ·by_cases c2:i∈S <;> simp [c,c2]
theorem at_lv {l:List Int} {k:Nat} (h:k < l.length) {μ:Mem} {Q:QD} (q:Q (.int (gt l k)) μ):wIdx (lvD l) (.int (k:Int)) μ Q:=by
 have e:l[k]? = some (gt l k):=gt_at h
 simp only [wIdx,lvD,Yb,List.length_map,ixD_nat h,Option.bind_some,List.getElem?_map,e,Option.map_some]
 exact q
theorem kL_led:Keeps nL_led iL_led spL_led:=by
 rintro ds μ Q ⟨l,t,S,x,rfl,hp,hl,x0,x1,q⟩
 rw [← lawL_eq hp] at q
 simp only [iL_led,nL_led,Yd,topZ,wSs,wS,wT,wE,wEs,wI,wRng,Wz,newL,phD,Yg,List.map_cons,List.map_nil,List.length_cons,List.length_nil,List.cons_append,List.nil_append,List.getElem?_cons_zero,List.getElem?_cons_succ,List.replicate,List.zip_cons_cons,List.zip_nil_left,List.zip_nil_right,List.foldl_cons,List.foldl_nil,List.set_cons_zero,List.set_cons_succ,if_true]
 refine ⟨trivial,by decide,?_⟩
 have lB:∀ (ν:Mem) (Q:QD),wBlt "len" [lvD l] ν Q=Q (.int (l.length:Int)) ν:=fun ν Q=>by simp [wBlt,lenOf,Yb,lvD]
 simp only [lB,Int.toNat_natCast,Yav]
 refine ⟨by simp only [lim]; omega,by omega,?_⟩
 refine Ye (fun ds ρ μ'=>∃ (j:Nat) (v6 v7:Option D),j≤l.length∧ds=(List.range' j (l.length - j)).map (fun (k:Nat)=>D.int (k:Int))∧μ'=μ ++ [.lst (((lawL l t S x).take j).map D.int)]∧ρ=[some (lvD l),some (.tup [Zd t,.tup (S.map Zd),.int x]),some (Zd t),some (.tup (S.map Zd)),some (.int x),some (.loc μ.length),v6,v7]) ?_ ?_ _ _ _ ⟨0,none,none,Nat.zero_le _,by simp [List.range_eq_range'],by simp,rfl⟩
 ·rintro d ds ρ μ' N hN ⟨j,v6,v7,hj,e1,rfl,rfl⟩
  have hj2:j < l.length:=by
   rcases Nat.lt_or_ge j l.length with z | z
   ·exact z
   ·rw [show l.length - j=0 by omega] at e1; simp at e1
  rw [show l.length - j=(l.length - (j + 1)) + 1 by omega,List.range'_succ] at e1
  simp only [List.map_cons,List.cons.injEq] at e1
  obtain ⟨rfl,rfl⟩:=e1
  refine ⟨trivial,?_⟩
  simp only [List.set_cons_zero,List.set_cons_succ,List.getElem?_cons_zero,List.getElem?_cons_succ,Zd,wCmp,eq_nat]
  refine ⟨rfl,rfl,?_⟩
  simp only [wBlt,wBin]
  refine ⟨mul01 _ _,by simp [isCell],at_lv hj2 ?_⟩
  simp only [Yb,any_nat]
  refine ⟨Zaz 60 _,rfl,mul01 _ _,?_⟩
  have e2:(μ ++ [Cell.lst (((lawL l t S x).take j).map D.int)])[μ.length]? = some (.lst (((lawL l t S x).take j).map D.int)):=by simp
  simp only [Zu,e2,Yl,List.length_map,List.length_take]
  refine ⟨by simp only [lim]; omega,hN _ _ ⟨j + 1,_,_,hj2,rfl,?_,rfl⟩⟩
  have hjl:j < (lawL l t S x).length:=by simpa [lawL] using hj2
  have e3:(lawL l t S x).take (j + 1)=(lawL l t S x).take j ++ [(lawL l t S x)[j]]:=by rw [List.take_add_one,List.getElem?_eq_getElem hjl]; rfl
  have e4:(lawL l t S x)[j]=gt l j + x * (if j=t then 1 else 0) - x * (if j∈S then 1 else 0):=by simp [lawL]
  rw [e3,e4,Z5,List.map_append]
  simp
 ·rintro ρ μ' ⟨j,v6,v7,hj,e1,rfl,rfl⟩
  have hj2:j=l.length:=by
   have:=congrArg List.length e1
   simp at this; omega
  subst hj2
  refine ⟨trivial,?_⟩
  have e2:(lawL l t S x).take l.length=lawL l t S x:=List.take_of_length_le (by simp [lawL])
  simp only [List.getElem?_cons_zero,List.getElem?_cons_succ,wBlt,Yb,e2]
  have e3:(μ ++ [Cell.lst ((lawL l t S x).map D.int)])[μ.length]? = some (.lst ((lawL l t S x).map D.int)):=by simp
  simp only [e3]
  exact q _
end DW.LYR
end
section
set_option autoImplicit false
namespace DW.LYR
open PySem DW DW.K03
noncomputable abbrev Ly:=List Int
noncomputable def Suc (l m:Ly):Prop:=∃ (t:Nat) (S:List Nat) (x:Int),isPh l t S x∧m=ledF l t S x
noncomputable def Ok4 (l:Ly):Prop:=(l.length=3∨l.length=4)∧(∀ x∈l,0≤x)∧l.sum≤9
theorem two_of {S:List Nat} (h:2≤S.length) (hp:S.Pairwise (· < ·)):∃ a b,a∈S∧b∈S∧a < b:=by
 match S,h,hp with
 | a :: b :: r,_,hp=>exact ⟨a,b,by simp,by simp,by simp at hp; exact hp.1.1⟩
theorem two_sum (P:Nat→Prop) [DecidablePred P] (x:Int) (hx:0≤x) (a b:Nat) (ab:a < b) (hb:b < 4) (pa:P a) (pb:P b):2 * x≤(if P 0 then x else 0) + (if P 1 then x else 0) + (if P 2 then x else 0) + (if P 3 then x else 0):=by
 have ha:a=0∨a=1∨a=2:=by omega
 have hb':b=1∨b=2∨b=3:=by omega
 rcases ha with rfl | rfl | rfl <;> rcases hb' with rfl | rfl | rfl <;> simp only [pa,pb,if_true] <;> (repeat' split) <;> omega
theorem Suc.ok {l m:Ly} (h:Ok4 l) (hs:Suc l m):Ok4 m∧m.sum < l.sum∧m.length=l.length:=by
 obtain ⟨t,S,x,⟨ht,h0,hx,h2,hp,hS⟩,rfl⟩:=hs
 obtain ⟨hl,hn,h9⟩:=h
 have htS:t ∉ S:=fun z=>by have:=(hS t z).2; omega
 have nn:∀ y∈ledF l t S x,0≤y:=by
  intro y hy
  unfold ledF at hy
  obtain ⟨i,hi,rfl⟩:=List.mem_map.mp hy
  have hi':=List.mem_range.mp hi
  have g0:0≤gt l i:=by rw [show gt l i=l[i] by simp [gt,hi']]; exact hn _ (List.getElem_mem hi')
  split
  ·omega
  ·split
   ·rename_i hm; have:=(hS i hm).2; omega
   ·exact g0
 have hlt:(ledF l t S x).sum < l.sum:=by
  obtain ⟨a,b,ha,hb,ab⟩:=two_of h2 hp
  have hbl:=(hS b hb).1
  have fx:∀ i,(if i=t then x else if i∈S then gt l i - x else gt l i)=gt l i + (if i=t then x else 0) - (if i∈S then x else 0):=fun i=>by
   by_cases c:i=t
   ·subst c; rw [if_pos rfl,if_pos rfl,if_neg htS]; omega
   ·rw [if_neg c,if_neg c]; split <;> omega
  have key:=two_sum (·∈S) x (by omega) a b ab (by rcases hl with hl | hl <;> omega) ha hb
  have one:(if (0:Nat)=t then x else 0) + (if 1=t then x else 0) + (if 2=t then x else 0) + (if 3=t then x else 0)≤x:=by
   (repeat' split) <;> omega
  rcases hl with hl | hl
  ·match l,hl with
   | [p,q,r],_ =>
    have n3:3 ∉ S:=fun z=>by have:=(hS 3 z).1; simp at this
    have t3:¬ 3=t:=by simp at ht; omega
    have e:(ledF [p,q,r] t S x).sum=p + q + r + ((if (0:Nat)=t then x else 0) + (if 1=t then x else 0) + (if 2=t then x else 0)) - ((if 0∈S then x else 0) + (if 1∈S then x else 0) + (if 2∈S then x else 0)):=by
     unfold ledF
     simp only [fx,List.length_cons,List.length_nil,show List.range (0 + 1 + 1 + 1)=[0,1,2] from rfl,List.map_cons,List.map_nil,List.sum_cons,List.sum_nil]
     simp only [gt,List.getElem?_cons_zero,List.getElem?_cons_succ,Option.getD_some]
     omega
    rw [e]
    rw [if_neg n3] at key
    rw [if_neg t3] at one
    simp
    omega
  ·match l,hl with
   | [p,q,r,u],_ =>
    have e:(ledF [p,q,r,u] t S x).sum=p + q + r + u + ((if (0:Nat)=t then x else 0) + (if 1=t then x else 0) + (if 2=t then x else 0) + (if 3=t then x else 0)) - ((if 0∈S then x else 0) + (if 1∈S then x else 0) + (if 2∈S then x else 0) + (if 3∈S then x else 0)):=by
     unfold ledF
     simp only [fx,List.length_cons,List.length_nil,show List.range (0 + 1 + 1 + 1 + 1)=[0,1,2,3] from rfl,List.map_cons,List.map_nil,List.sum_cons,List.sum_nil]
     simp only [gt,List.getElem?_cons_zero,List.getElem?_cons_succ,Option.getD_some]
     omega
    rw [e]
    simp
    omega
 exact ⟨⟨by rw [ledF_len]; exact hl,nn,by omega⟩,hlt,ledF_len ..⟩
theorem up_ext:∀ {r r':List Ly},UpI r→r.Nodup→UpI r'→r'.Nodup→(∀ x,x∈r↔x∈r')→r=r'
 | [],[],_,_,_,_,_=>rfl
 | [],y :: r',_,_,_,_,h=>by have:=(h y).mpr (by simp); simp at this
 | x :: r,[],_,_,_,_,h=>by have:=(h x).mp (by simp); simp at this
 | x :: r,y :: r',u1,n1,u2,n2,h=>by
  simp only [UpI,List.pairwise_cons] at u1 u2
  simp only [List.nodup_cons] at n1 n2
  have e:x=y:=by
   have hx:=(h x).mp (by simp)
   have hy:=(h y).mpr (by simp)
   rcases List.mem_cons.mp hx with e | hx
   ·exact e
   ·rcases List.mem_cons.mp hy with e | hy
    ·exact e.symm
    ·exact (ltI_eq (u2.1 x hx) (u1.1 y hy))
  subst e
  congr 1
  refine up_ext u1.2 n1.2 u2.2 n2.2 fun z=>?_
  have:=h z
  constructor
  ·intro hz
   rcases List.mem_cons.mp (this.mp (by simp [hz])) with e | q
   ·subst e; exact absurd hz n1.1
   ·exact q
  ·intro hz
   rcases List.mem_cons.mp (this.mpr (by simp [hz])) with e | q
   ·subst e; exact absurd hz n2.1
   ·exact q
structure NL (L:List Ly) (seen:Ly→Prop) (M:List Ly):Prop where
 up:UpI M
 nd:M.Nodup
 mem:∀ m,m∈M↔(∃ o∈L,Suc o m)∧¬ seen m
theorem NL.uniq {L:List Ly} {seen seen':Ly→Prop} {M M':List Ly} (h:NL L seen M) (h':NL L seen' M') (e:∀ m,seen m↔seen' m):M=M' :=
 up_ext h.up h.nd h'.up h'.nd fun x=>by rw [h.mem,h'.mem,e]
noncomputable def Zt (R:List (List Ly)) (m:Ly):Prop:=∃ row∈R,m∈row
inductive Rows (l:Ly):List (List Ly)→Prop
 | one:Rows l [[l]]
 | more {R:List (List Ly)} {L M:List Ly}:Rows l (R ++ [L])→NL L (Zt (R ++ [L])) M→Rows l (R ++ [L] ++ [M])
theorem Rows.ne {l:Ly} {R:List (List Ly)} (h:Rows l R):R≠[]:=by cases h <;> simp
theorem Wi {α:Type} {A B:List α} {a b:α} (h:A ++ [a]=B ++ [b]):A=B∧a=b:=by simpa using List.append_inj' h rfl
theorem Rows.uniq {l:Ly}:∀ {R R':List (List Ly)},Rows l R→Rows l R'→R.length=R'.length→R=R':=by
 intro R R' h
 induction h generalizing R' with
 | one =>
  intro h' e
  cases h' with
  | one=>rfl
  | more h1 h2=>simp at e
 | more h1 h2 ih =>
  intro h' e
  cases h' with
  | one=>simp at e
  | more h3 h4 =>
   have:=ih h3 (by simpa using e)
   obtain ⟨rfl,rfl⟩:=Wi this
   rw [h2.uniq h4 fun _=>Iff.rfl]
theorem Rows.pre {l : Ly} {R : List (List Ly)} (h : Rows l R) : ∀ (k : Nat), 1 ≤ k → k ≤ R.length → Rows l (R.take k) := by
  induction h with
  | one => intro k h1 h2; have : k = 1 := by simp at h2; omega
           subst this; exact .one
  | more h1 h2 ih =>
    intro k k1 k2
    rename_i R L M
    by_cases c : k ≤ (R ++ [L]).length
    · rw [List.take_append_of_le_length c]; exact ih k k1 c
    · have : k = (R ++ [L] ++ [M]).length := by simp at c k2 ⊢; omega
      rw [this, List.take_length]; exact .more h1 h2
inductive Reach (l:Ly):Nat→Ly→Prop
 | zero:Reach l 0 l
 | succ {k:Nat} {o m:Ly}:Reach l k o→Suc o m→Reach l (k + 1) m
theorem Reach.ok {l:Ly} (hl:Ok4 l):∀ {k:Nat} {m:Ly},Reach l k m→Ok4 m∧m.sum + (k:Int)≤l.sum∧m.length=l.length
 | 0,_,.zero=>⟨hl,by simp,rfl⟩
 | k + 1,_,.succ h1 h2=>by
  obtain ⟨a,b,c⟩:=h1.ok hl
  obtain ⟨d,e,f⟩:=h2.ok a
  exact ⟨d,by push_cast; omega,by omega⟩
theorem Reach.le {l m:Ly} {k:Nat} (hl:Ok4 l) (h:Reach l k m):k≤9:=by
 obtain ⟨a,b,_⟩:=h.ok hl
 have:=Xbe a.2.1
 have:=hl.2.2
 omega
theorem Rows.last {l:Ly} {R:List (List Ly)} (h:Rows l R):∀ R0 L,R=R0 ++ [L]→∀ m∈L,Reach l R0.length m:=by
 induction h with
 | one =>
  intro R0 L e m hm
  have:R0=[]∧L=[l]:=by
   cases R0 with
   | nil=>simpa using e.symm
   | cons a r=>simp at e
  obtain ⟨rfl,rfl⟩:=this
  have:m=l:=by simpa using hm
  subst this; exact .zero
 | more h1 h2 ih =>
  intro R0 L' e m hm
  obtain ⟨rfl,rfl⟩:=Wi e
  obtain ⟨⟨o,ho,hs⟩,_⟩:=(h2.mem m).mp hm
  have:=ih _ _ rfl o ho
  rw [List.length_append]
  exact .succ this hs
noncomputable def Sg (L:List Ly):Prop:=∃ m∈L,m.sum=1
structure Done (l:Ly) (R:List (List Ly)):Prop where
 rows:Rows l R
 full:∀ row∈R,row≠[]
 none:∀ R0 L,R=R0 ++ [L]→∀ row∈R0,¬ Sg row
 last:∀ R0 L,R=R0 ++ [L]→Sg L∨NL L (Zt R) []
theorem Done.lt {l:Ly} {R R':List (List Ly)} (h:Done l R) (h':Done l R'):¬ R.length < R'.length:=by
 intro hlt
 obtain ⟨R0,L,rfl⟩:∃ R0 L,R=R0 ++ [L]:=by
  rcases List.eq_nil_or_concat R with e | ⟨R0,L,e⟩
  ·exact absurd e h.rows.ne
  ·exact ⟨R0,L,by simpa using e⟩
 have pe:(R0 ++ [L])=R'.take (R0 ++ [L]).length:=h.rows.uniq (h'.rows.pre _ (by simp) (by omega)) (by simp at hlt ⊢; omega)
 have hl1:(R0 ++ [L]).length < R'.length:=hlt
 have e2:R'=(R0 ++ [L]) ++ R'.drop (R0 ++ [L]).length:=by
  conv=>lhs; rw [← List.take_append_drop (R0 ++ [L]).length R']
  rw [← pe]
 obtain ⟨N,r,hd⟩:∃ N r,R'.drop (R0 ++ [L]).length=N :: r:=by
  cases q:R'.drop (R0 ++ [L]).length with
  | nil=>have:=List.drop_eq_nil_iff.mp q; omega
  | cons N r=>exact ⟨N,r,rfl⟩
 rw [hd] at e2
 rcases h.last R0 L rfl with hs | hn
 ·obtain ⟨R1,L1,e3⟩:∃ R1 L1,N :: r=R1 ++ [L1]:=by
   rcases List.eq_nil_or_concat (N :: r) with e | ⟨R1,L1,e⟩
   ·simp at e
   ·exact ⟨R1,L1,by simpa using e⟩
  rw [e3,← List.append_assoc] at e2
  exact h'.none _ _ e2 L (by simp) hs
 ·have h3:Rows l (R0 ++ [L] ++ [N]):=by
   have:=h'.rows.pre ((R0 ++ [L]).length + 1) (by omega) (by omega)
   rw [e2] at this
   have e4:((R0 ++ [L]) ++ N :: r).take ((R0 ++ [L]).length + 1)=R0 ++ [L] ++ [N]:=by
    rw [List.take_append,List.take_of_length_le (by omega)]; simp
   rw [e4] at this; exact this
  have h4:Rows l (R0 ++ [L] ++ [[]]):=.more h.rows hn
  have:=h3.uniq h4 (by simp)
  have hN:N=[]:=(Wi this).2
  exact h'.full N (by rw [e2]; simp) hN
theorem Done.uniq {l:Ly} {R R':List (List Ly)} (h:Done l R) (h':Done l R'):R=R':=by
 have h1:=h.lt h'
 have h2:=h'.lt h
 exact h.rows.uniq h'.rows (by omega)
end DW.LYR
end
section
set_option autoImplicit false
namespace DW.LYR
open PySem DW DW.K03
noncomputable def Xa3 {β:Type} (n:Nat) (f:Nat→β):β:=match n with | 0=>f 0 | k + 1=>f (k + 1)
noncomputable def upN (n:Nat) (f:Nat→Nat):List Nat:=match n with | 0=>[] | k + 1=>f (k + 1) :: upN k f
noncomputable def enc4 (a b c d:Nat):Nat:=a + 10 * b + 100 * c + 1000 * d
noncomputable def tg4 (a b c d:Nat) (f:Nat→Nat→Nat→Nat→Nat):List Nat:=match a with
 | 0=>upN (min b c) (fun x=>f x (b - x) (c - x) d) ++ (upN (min b d) (fun x=>f x (b - x) c (d - x)) ++ (upN (min c d) (fun x=>f x b (c - x) (d - x)) ++ upN (min b (min c d)) (fun x=>f x (b - x) (c - x) (d - x))))
 | _=>[]
noncomputable def suc4 (a b c d:Nat):List Nat:=tg4 a b c d enc4 ++ (tg4 b a c d (fun b a c d=>enc4 a b c d) ++ (tg4 c a b d (fun c a b d=>enc4 a b c d) ++ tg4 d a b c (fun d a b c=>enc4 a b c d)))
noncomputable def sucC (n:Nat):List Nat:=Xa3 (n % 10) fun a=>Xa3 (n / 10 % 10) fun b=>Xa3 (n / 100 % 10) fun c=>Xa3 (n / 1000) fun d=>suc4 a b c d
noncomputable def insN (x:Nat) (l:List Nat):List Nat:=match l with | []=>[x] | y :: r=>match Nat.beq x y with | true=>y :: r | false=>y :: insN x r
noncomputable def insL (xs l:List Nat):List Nat:=match xs with | []=>l | x :: xs=>Xa3 x fun x=>insL xs (insN x l)
noncomputable def forceL {β:Type} (l:List Nat) (k:List Nat→β):β:=match l with | []=>k [] | x :: r=>forceL r fun r=>k (x :: r)
noncomputable def W3 (L:List Nat) (acc:List Nat):List Nat:=match L with | []=>acc | x :: L=>forceL (insL (sucC x) acc) (W3 L)
noncomputable def goC:Nat→List Nat→Bool
 | 0,L=>true
 | k + 1,L=>match W3 L [] with | []=>true | x :: M=>match Nat.blt M.length 63 with | true=>goC k (x :: M) | false=>false
noncomputable def rowC (a b:Nat):Bool:=(List.range (10 - a - b)).all fun c=>(List.range (10 - a - b - c)).all fun d=>Xa3 (enc4 a b c d) fun n=>goC 10 [n]
theorem rowC_0_0:rowC 0 0=true:=by decide +kernel
theorem rowC_0_1:rowC 0 1=true:=by decide +kernel
theorem rowC_0_2:rowC 0 2=true:=by decide +kernel
theorem rowC_0_3:rowC 0 3=true:=by decide +kernel
theorem rowC_0_4:rowC 0 4=true:=by decide +kernel
theorem rowC_0_5:rowC 0 5=true:=by decide +kernel
theorem rowC_0_6:rowC 0 6=true:=by decide +kernel
theorem rowC_0_7:rowC 0 7=true:=by decide +kernel
theorem rowC_0_8:rowC 0 8=true:=by decide +kernel
theorem rowC_0_9:rowC 0 9=true:=by decide +kernel
theorem rowC_1_0:rowC 1 0=true:=by decide +kernel
theorem rowC_1_1:rowC 1 1=true:=by decide +kernel
theorem rowC_1_2:rowC 1 2=true:=by decide +kernel
theorem rowC_1_3:rowC 1 3=true:=by decide +kernel
theorem rowC_1_4:rowC 1 4=true:=by decide +kernel
theorem rowC_1_5:rowC 1 5=true:=by decide +kernel
theorem rowC_1_6:rowC 1 6=true:=by decide +kernel
theorem rowC_1_7:rowC 1 7=true:=by decide +kernel
theorem rowC_1_8:rowC 1 8=true:=by decide +kernel
theorem rowC_2_0:rowC 2 0=true:=by decide +kernel
theorem rowC_2_1:rowC 2 1=true:=by decide +kernel
theorem rowC_2_2:rowC 2 2=true:=by decide +kernel
theorem rowC_2_3:rowC 2 3=true:=by decide +kernel
theorem rowC_2_4:rowC 2 4=true:=by decide +kernel
theorem rowC_2_5:rowC 2 5=true:=by decide +kernel
theorem rowC_2_6:rowC 2 6=true:=by decide +kernel
theorem rowC_2_7:rowC 2 7=true:=by decide +kernel
theorem rowC_3_0:rowC 3 0=true:=by decide +kernel
theorem rowC_3_1:rowC 3 1=true:=by decide +kernel
theorem rowC_3_2:rowC 3 2=true:=by decide +kernel
theorem rowC_3_3:rowC 3 3=true:=by decide +kernel
theorem rowC_3_4:rowC 3 4=true:=by decide +kernel
theorem rowC_3_5:rowC 3 5=true:=by decide +kernel
theorem rowC_3_6:rowC 3 6=true:=by decide +kernel
theorem rowC_4_0:rowC 4 0=true:=by decide +kernel
theorem rowC_4_1:rowC 4 1=true:=by decide +kernel
theorem rowC_4_2:rowC 4 2=true:=by decide +kernel
theorem rowC_4_3:rowC 4 3=true:=by decide +kernel
theorem rowC_4_4:rowC 4 4=true:=by decide +kernel
theorem rowC_4_5:rowC 4 5=true:=by decide +kernel
theorem rowC_5_0:rowC 5 0=true:=by decide +kernel
theorem rowC_5_1:rowC 5 1=true:=by decide +kernel
theorem rowC_5_2:rowC 5 2=true:=by decide +kernel
theorem rowC_5_3:rowC 5 3=true:=by decide +kernel
theorem rowC_5_4:rowC 5 4=true:=by decide +kernel
theorem rowC_6_0:rowC 6 0=true:=by decide +kernel
theorem rowC_6_1:rowC 6 1=true:=by decide +kernel
theorem rowC_6_2:rowC 6 2=true:=by decide +kernel
theorem rowC_6_3:rowC 6 3=true:=by decide +kernel
theorem rowC_7_0:rowC 7 0=true:=by decide +kernel
theorem rowC_7_1:rowC 7 1=true:=by decide +kernel
theorem rowC_7_2:rowC 7 2=true:=by decide +kernel
theorem rowC_8_0:rowC 8 0=true:=by decide +kernel
theorem rowC_8_1:rowC 8 1=true:=by decide +kernel
theorem rowC_9_0:rowC 9 0=true:=by decide +kernel
theorem rowC_all:∀ {a b:Nat},a + b≤9→rowC a b=true
 | 0,0,_=>rowC_0_0
 | 0,1,_=>rowC_0_1
 | 0,2,_=>rowC_0_2
 | 0,3,_=>rowC_0_3
 | 0,4,_=>rowC_0_4
 | 0,5,_=>rowC_0_5
 | 0,6,_=>rowC_0_6
 | 0,7,_=>rowC_0_7
 | 0,8,_=>rowC_0_8
 | 0,9,_=>rowC_0_9
 | 0,b + 10,h=>by omega
 | 1,0,_=>rowC_1_0
 | 1,1,_=>rowC_1_1
 | 1,2,_=>rowC_1_2
 | 1,3,_=>rowC_1_3
 | 1,4,_=>rowC_1_4
 | 1,5,_=>rowC_1_5
 | 1,6,_=>rowC_1_6
 | 1,7,_=>rowC_1_7
 | 1,8,_=>rowC_1_8
 | 1,b + 9,h=>by omega
 | 2,0,_=>rowC_2_0
 | 2,1,_=>rowC_2_1
 | 2,2,_=>rowC_2_2
 | 2,3,_=>rowC_2_3
 | 2,4,_=>rowC_2_4
 | 2,5,_=>rowC_2_5
 | 2,6,_=>rowC_2_6
 | 2,7,_=>rowC_2_7
 | 2,b + 8,h=>by omega
 | 3,0,_=>rowC_3_0
 | 3,1,_=>rowC_3_1
 | 3,2,_=>rowC_3_2
 | 3,3,_=>rowC_3_3
 | 3,4,_=>rowC_3_4
 | 3,5,_=>rowC_3_5
 | 3,6,_=>rowC_3_6
 | 3,b + 7,h=>by omega
 | 4,0,_=>rowC_4_0
 | 4,1,_=>rowC_4_1
 | 4,2,_=>rowC_4_2
 | 4,3,_=>rowC_4_3
 | 4,4,_=>rowC_4_4
 | 4,5,_=>rowC_4_5
 | 4,b + 6,h=>by omega
 | 5,0,_=>rowC_5_0
 | 5,1,_=>rowC_5_1
 | 5,2,_=>rowC_5_2
 | 5,3,_=>rowC_5_3
 | 5,4,_=>rowC_5_4
 | 5,b + 5,h=>by omega
 | 6,0,_=>rowC_6_0
 | 6,1,_=>rowC_6_1
 | 6,2,_=>rowC_6_2
 | 6,3,_=>rowC_6_3
 | 6,b + 4,h=>by omega
 | 7,0,_=>rowC_7_0
 | 7,1,_=>rowC_7_1
 | 7,2,_=>rowC_7_2
 | 7,b + 3,h=>by omega
 | 8,0,_=>rowC_8_0
 | 8,1,_=>rowC_8_1
 | 8,b + 2,h=>by omega
 | 9,0,_=>rowC_9_0
 | 9,b + 1,h=>by omega
 | a + 10,b,h=>by omega
theorem Vah {β:Type} (n:Nat) (f:Nat→β):Xa3 n f=f n:=by cases n <;> rfl
theorem Vay {β:Type}:∀ (l:List Nat) (k:List Nat→β),forceL l k=k l
 | [],k=>rfl
 | x :: r,k=>by unfold forceL; rw [Vay r]
theorem Y6 {x y:Nat}:∀ {l:List Nat},y=x∨y∈l→y∈insN x l
 | [],h=>by simpa [insN] using h
 | z :: r,h=>by
  unfold insN
  cases q:Nat.beq x z with
  | true =>
   have:x=z:=Nat.eq_of_beq_eq_true q
   subst this
   simpa using h
  | false =>
   rcases h with h | h
   ·exact List.mem_cons_of_mem _ (Y6 (.inl h))
   ·rcases List.mem_cons.mp h with h | h
    ·simp [h]
    ·exact List.mem_cons_of_mem _ (Y6 (.inr h))
theorem Xam {y:Nat}:∀ {xs l:List Nat},y∈xs∨y∈l→y∈insL xs l
 | [],l,h=>by simpa [insL] using h
 | x :: xs,l,h=>by
  unfold insL
  rw [Vah]
  refine Xam ?_
  rcases h with h | h
  ·rcases List.mem_cons.mp h with h | h
   ·exact .inr (Y6 (.inl h))
   ·exact .inl h
  ·exact .inr (Y6 (.inr h))
theorem Zaw {y:Nat}:∀ {L acc:List Nat},y∈acc∨(∃ x∈L,y∈sucC x)→y∈W3 L acc
 | [],acc,h=>by simpa [W3] using h
 | x :: L,acc,h=>by
  unfold W3
  rw [Vay]
  refine Zaw ?_
  rcases h with h | ⟨z,hz,h⟩
  ·exact .inl (Xam (.inr h))
  ·rcases List.mem_cons.mp hz with rfl | hz
   ·exact .inl (Xam (.inl h))
   ·exact .inr ⟨z,hz,h⟩
noncomputable def levC (L:List Nat):Nat→List Nat
 | 0=>L
 | k + 1=>W3 (levC L k) []
theorem Vaw (L:List Nat):∀ k,levC L (k + 1)=levC (W3 L []) k
 | 0=>rfl
 | k + 1=>by show W3 (levC L (k + 1)) []=W3 (levC (W3 L []) k) []; rw [Vaw L k]
theorem levC_nil:∀ k,levC [] k=[]
 | 0=>rfl
 | k + 1=>by show W3 (levC [] k) []=[]; rw [levC_nil k]; rfl
theorem goC_len:∀ {j:Nat} {L:List Nat},goC j L=true→L.length < 64→∀ k,k≤j→(levC L k).length < 64
 | j,L,_,h0,0,_=>h0
 | 0,L,_,_,k + 1,hk=>by omega
 | j + 1,L,h,h0,k + 1,hk=>by
  rw [Vaw]
  unfold goC at h
  cases q:W3 L [] with
  | nil=>rw [levC_nil]; decide
  | cons x M =>
   rw [q] at h
   simp only at h
   cases z:Nat.blt M.length 63 with
   | false=>rw [z] at h; simp at h
   | true =>
    rw [z] at h
    have:M.length < 63:=by rw [← Nat.blt_eq]; exact z
    exact goC_len h (by simp; omega) k (by omega)
theorem W7 {f:Nat→Nat} {x:Nat} (h1:1≤x):∀ {n:Nat},x≤n→f x∈upN n f
 | 0,h=>by omega
 | n + 1,h=>by
  unfold upN
  by_cases c:x=n + 1
  ·subst c; simp
  ·exact List.mem_cons_of_mem _ (W7 h1 (by omega))
section
variable {b c d x:Nat} {f:Nat→Nat→Nat→Nat→Nat} (h1:1≤x)
include h1
theorem tg4_a (hb:x≤b) (hc:x≤c):f x (b - x) (c - x) d∈tg4 0 b c d f:=by
 unfold tg4; simp only [List.mem_append]; exact .inl (W7 (f:=fun x=>f x (b - x) (c - x) d) h1 (by omega))
theorem tg4_b (hb:x≤b) (hc:x≤d):f x (b - x) c (d - x)∈tg4 0 b c d f:=by
 unfold tg4; simp only [List.mem_append]; exact .inr (.inl (W7 (f:=fun x=>f x (b - x) c (d - x)) h1 (by omega)))
theorem tg4_c (hb:x≤c) (hc:x≤d):f x b (c - x) (d - x)∈tg4 0 b c d f:=by
 unfold tg4; simp only [List.mem_append]; exact .inr (.inr (.inl (W7 (f:=fun x=>f x b (c - x) (d - x)) h1 (by omega))))
theorem tg4_d (hb:x≤b) (hc:x≤c) (hd:x≤d):f x (b - x) (c - x) (d - x)∈tg4 0 b c d f:=by
 unfold tg4; simp only [List.mem_append]; exact .inr (.inr (.inr (W7 (f:=fun x=>f x (b - x) (c - x) (d - x)) h1 (by omega))))
end
noncomputable def encL:Ly→Nat
 | [a,b,c,d]=>enc4 a.toNat b.toNat c.toNat d.toNat
 | _=>0
theorem sucC_enc {a b c d:Nat} (ha:a≤9) (hb:b≤9) (hc:c≤9):sucC (enc4 a b c d)=suc4 a b c d:=by
 unfold sucC enc4
 simp only [Vah]
 have e1:(a + 10 * b + 100 * c + 1000 * d) % 10=a:=by omega
 have e2:(a + 10 * b + 100 * c + 1000 * d) / 10 % 10=b:=by omega
 have e3:(a + 10 * b + 100 * c + 1000 * d) / 100 % 10=c:=by omega
 have e4:(a + 10 * b + 100 * c + 1000 * d) / 1000=d:=by omega
 rw [e1,e2,e3,e4]
theorem led4 (a b c d:Int) (t:Nat) (S:List Nat) (x:Int):ledF [a,b,c,d] t S x=[if 0=t then x else if 0∈S then a - x else a,if 1=t then x else if 1∈S then b - x else b,if 2=t then x else if 2∈S then c - x else c,if 3=t then x else if 3∈S then d - x else d]:=by
 unfold ledF; simp [List.range_succ,gt]
theorem two_in {S:List Nat} (h:2≤S.length) (hp:S.Pairwise (· < ·)) (hb:∀ s∈S,s < 4):(0∈S∧1∈S)∨(0∈S∧2∈S)∨(0∈S∧3∈S)∨(1∈S∧2∈S)∨(1∈S∧3∈S)∨(2∈S∧3∈S):=by
 obtain ⟨p,q,hp,hq,hpq⟩:=two_of h hp
 have:=hb q hq
 have hp4:p=0∨p=1∨p=2:=by omega
 have hq4:q=1∨q=2∨q=3:=by omega
 rcases hp4 with rfl | rfl | rfl <;> rcases hq4 with rfl | rfl | rfl <;> first | omega | simp [hp,hq]
theorem suc_enc {a b c d:Nat} (ha:a≤9) (hb:b≤9) (hc:c≤9) {m:Ly} (h:Suc [(a:Int),b,c,d] m):encL m∈sucC (enc4 a b c d):=by
 rw [sucC_enc ha hb hc]
 obtain ⟨t,S,x,⟨ht,h0,hx,h2,hp,hS⟩,rfl⟩:=h
 obtain ⟨y,rfl⟩:=Int.eq_ofNat_of_zero_le (show 0≤x by omega)
 have hy:1≤y:=by omega
 have two:=two_in h2 hp fun s hs=>by simpa using (hS s hs).1
 have g0:0∈S→y≤a:=fun z=>by have:=(hS 0 z).2; simp [gt] at this; omega
 have g1:1∈S→y≤b:=fun z=>by have:=(hS 1 z).2; simp [gt] at this; omega
 have g2:2∈S→y≤c:=fun z=>by have:=(hS 2 z).2; simp [gt] at this; omega
 have g3:3∈S→y≤d:=fun z=>by have:=(hS 3 z).2; simp [gt] at this; omega
 rw [led4]
 clear hS hp h2
 unfold encL suc4
 simp only [List.mem_append]
 have ht4:t=0∨t=1∨t=2∨t=3:=by simp at ht; omega
 rcases ht4 with rfl | rfl | rfl | rfl
 ·have e:a=0:=by simp [gt] at h0; omega
  subst e
  refine .inl ?_
  have n0:0 ∉ S:=fun z=>by have:=g0 z; omega
  by_cases c1:1∈S <;> by_cases c2:2∈S <;> by_cases c3:3∈S <;> simp [n0,c1,c2,c3] at two ⊢
  ·exact tg4_d (f:=enc4) hy (g1 c1) (g2 c2) (g3 c3)
  ·exact tg4_a (f:=enc4) hy (g1 c1) (g2 c2)
  ·exact tg4_b (f:=enc4) hy (g1 c1) (g3 c3)
  ·exact tg4_c (f:=enc4) hy (g2 c2) (g3 c3)
 ·have e:b=0:=by simp [gt] at h0; omega
  subst e
  refine .inr (.inl ?_)
  have n0:1 ∉ S:=fun z=>by have:=g1 z; omega
  by_cases c1:0∈S <;> by_cases c2:2∈S <;> by_cases c3:3∈S <;> simp [n0,c1,c2,c3] at two ⊢
  ·exact tg4_d (f:=fun b a c d=>enc4 a b c d) hy (g0 c1) (g2 c2) (g3 c3)
  ·exact tg4_a (f:=fun b a c d=>enc4 a b c d) hy (g0 c1) (g2 c2)
  ·exact tg4_b (f:=fun b a c d=>enc4 a b c d) hy (g0 c1) (g3 c3)
  ·exact tg4_c (f:=fun b a c d=>enc4 a b c d) hy (g2 c2) (g3 c3)
 ·have e:c=0:=by simp [gt] at h0; omega
  subst e
  refine .inr (.inr (.inl ?_))
  have n0:2 ∉ S:=fun z=>by have:=g2 z; omega
  by_cases c1:0∈S <;> by_cases c2:1∈S <;> by_cases c3:3∈S <;> simp [n0,c1,c2,c3] at two ⊢
  ·exact tg4_d (f:=fun c a b d=>enc4 a b c d) hy (g0 c1) (g1 c2) (g3 c3)
  ·exact tg4_a (f:=fun c a b d=>enc4 a b c d) hy (g0 c1) (g1 c2)
  ·exact tg4_b (f:=fun c a b d=>enc4 a b c d) hy (g0 c1) (g3 c3)
  ·exact tg4_c (f:=fun c a b d=>enc4 a b c d) hy (g1 c2) (g3 c3)
 ·have e:d=0:=by simp [gt] at h0; omega
  subst e
  refine .inr (.inr (.inr ?_))
  have n0:3 ∉ S:=fun z=>by have:=g3 z; omega
  by_cases c1:0∈S <;> by_cases c2:1∈S <;> by_cases c3:2∈S <;> simp [n0,c1,c2,c3] at two ⊢
  ·exact tg4_d (f:=fun d a b c=>enc4 a b c d) hy (g0 c1) (g1 c2) (g2 c3)
  ·exact tg4_a (f:=fun d a b c=>enc4 a b c d) hy (g0 c1) (g1 c2)
  ·exact tg4_b (f:=fun d a b c=>enc4 a b c d) hy (g0 c1) (g2 c3)
  ·exact tg4_c (f:=fun d a b c=>enc4 a b c d) hy (g1 c2) (g2 c3)
theorem four {l:Ly} (h:Ok4 l) (h4:l.length=4):∃ a b c d:Nat,l=[(a:Int),b,c,d]∧a + b + c + d≤9:=by
 match l,h4 with
 | [a,b,c,d],_ =>
  obtain ⟨_,hn,hs⟩:=h
  obtain ⟨a',rfl⟩:=Int.eq_ofNat_of_zero_le (hn a (by simp))
  obtain ⟨b',rfl⟩:=Int.eq_ofNat_of_zero_le (hn b (by simp))
  obtain ⟨c',rfl⟩:=Int.eq_ofNat_of_zero_le (hn c (by simp))
  obtain ⟨d',rfl⟩:=Int.eq_ofNat_of_zero_le (hn d (by simp))
  refine ⟨a',b',c',d',rfl,?_⟩
  simp at hs
  omega
theorem Zav {l:Ly} (hl:Ok4 l) (h4:l.length=4):∀ {k:Nat} {m:Ly},Reach l k m→encL m∈levC [encL l] k
 | 0,_,.zero=>by simp [levC]
 | k + 1,m,.succ (o:=o) h1 h2=>by
  have ih:=Zav hl h4 h1
  obtain ⟨a,_,c⟩:=h1.ok hl
  obtain ⟨p,q,r,s,rfl,hs⟩:=four a (by omega)
  exact Zaw (.inr ⟨_,ih,suc_enc (by omega) (by omega) (by omega) h2⟩)
theorem all4_at {a b c d:Nat} (h:a + b + c + d≤9):goC 10 [enc4 a b c d]=true:=by
 have:=rowC_all (show a + b≤9 by omega)
 unfold rowC at this
 simp only [List.all_eq_true,List.mem_range,Vah] at this
 exact this c (by omega) d (by omega)
theorem bound4 {l:Ly} (hl:Ok4 l) (h4:l.length=4) {k:Nat} {M:List Ly} (nd:M.Nodup) (h:∀ m∈M,Reach l k m):M.length < 64:=by
 by_cases hk:k≤10
 ·have hs:M.map encL ⊆ levC [encL l] k:=by
   intro x hx
   obtain ⟨m,hm,rfl⟩:=List.mem_map.mp hx
   exact Zav hl h4 (h m hm)
  have nd':(M.map encL).Nodup:=by
   unfold List.Nodup
   rw [List.pairwise_map]
   refine List.Pairwise.imp_of_mem ?_ nd
   intro x y hx hy hxy e
   obtain ⟨ox,_,lx⟩:=(h x hx).ok hl
   obtain ⟨oy,_,ly⟩:=(h y hy).ok hl
   obtain ⟨p,q,r,s,rfl,hs⟩:=four ox (by omega)
   obtain ⟨p',q',r',s',rfl,hs'⟩:=four oy (by omega)
   simp only [encL,Int.toNat_natCast,enc4] at e
   apply hxy
   have g1:p≤9∧q≤9∧r≤9:=by omega
   have g2:p'≤9∧q'≤9∧r'≤9:=by omega
   clear hs hs'
   have e1:p=p':=by omega
   have e2:q=q':=by omega
   have e3:r=r':=by omega
   have e4:s=s':=by omega
   rw [e1,e2,e3,e4]
  have:=nd'.length_le_of_subset hs
  obtain ⟨p,q,r,s,rfl,hq⟩:=four hl h4
  have h2:=goC_len (all4_at hq) (by simp) k hk
  simp only [encL,Int.toNat_natCast,List.length_map] at this
  omega
 ·cases M with
  | nil=>simp
  | cons m M=>have:=(h m (by simp)).le hl; omega
theorem Vam (l:Ly) (i:Nat):gt (l ++ [0]) i=gt l i:=by
 unfold gt
 by_cases c:i < l.length
 ·rw [List.getElem?_append_left c]
 ·rw [List.getElem?_append_right (by omega),List.getElem?_eq_none (l:=l) (by omega)]
  cases q:i - l.length with
  | zero=>rfl
  | succ n=>rfl
theorem Suc.snoc {l m:Ly} (h:Suc l m):Suc (l ++ [0]) (m ++ [0]):=by
 obtain ⟨t,S,x,⟨ht,h0,hx,h2,hp,hS⟩,rfl⟩:=h
 refine ⟨t,S,x,⟨by simp; omega,by rw [Vam]; exact h0,hx,h2,hp,fun s hs=>?_⟩,?_⟩
 ·rw [Vam]; obtain ⟨a,b⟩:=hS s hs; exact ⟨by simp; omega,b⟩
 ·unfold ledF
  rw [List.length_append,List.length_singleton,List.range_succ,List.map_append]
  congr 1
  ·exact List.map_congr_left fun i _=>by rw [Vam]
  ·have n1:¬ l.length=t:=by omega
   have n2:l.length ∉ S:=fun z=>by have:=(hS _ z).1; omega
   simp [n1,n2,Vam,gt]
theorem Reach.snoc {l:Ly}:∀ {k:Nat} {m:Ly},Reach l k m→Reach (l ++ [0]) k (m ++ [0])
 | 0,_,.zero=>.zero
 | k + 1,_,.succ h1 h2=>.succ h1.snoc h2.snoc
theorem lay_bound {l:Ly} (hl:Ok4 l) {k:Nat} {M:List Ly} (nd:M.Nodup) (h:∀ m∈M,Reach l k m):M.length < 64:=by
 rcases hl.1 with h3 | h4
 ·have:=bound4 (l:=l ++ [0]) (k:=k) (M:=M.map (· ++ [0])) ⟨by simp [h3],by
    intro x hx
    rcases List.mem_append.mp hx with q | q
    ·exact hl.2.1 x q
    ·have:x=0:=by simpa using q
     omega,by rw [List.sum_append]; have:=hl.2.2; simp; omega⟩ (by simp [h3]) (by
    unfold List.Nodup
    rw [List.pairwise_map]
    exact List.Pairwise.imp (fun q e=>q (List.append_cancel_right e)) nd) (by
    intro m hm
    obtain ⟨o,ho,rfl⟩:=List.mem_map.mp hm
    exact (h o ho).snoc)
  simpa using this
 ·exact bound4 hl h4 nd h
end DW.LYR
end
section
set_option autoImplicit false
namespace DW.LYR
open PySem DW DW.K03
theorem Ze {α:Type} {bnd:D→Rho→(Rho→Prop)→Prop} {bw:DEnds→Rho→Mem→Prop} {g:Mem→Prop} {Z:DEnds} (c:α→D) (l:List α) (I:List α→Rho→Mem→Prop)
  (hs:∀ pre x post,l=pre ++ x :: post→∀ ρ μ N,(∀ ρ μ,I (pre ++ [x]) ρ μ→N ρ μ)→I pre ρ μ→g μ∧bnd (c x) ρ fun ρ'=>bw { Z with nx:=N,ct:=N,bk:=Z.nx } ρ' μ)
  (he:∀ ρ μ,I l ρ μ→g μ∧Z.nx ρ μ) (ρ:Rho) (μ:Mem) (h0:I [] ρ μ):Yar bnd bw g Z (l.map c) ρ μ:=by
 refine Ye (fun ds ρ μ=>∃ pre post,l=pre ++ post∧ds=post.map c∧I pre ρ μ) ?_ ?_ _ _ _ ⟨[],l,rfl,rfl,h0⟩
 ·rintro d ds ρ μ N hN ⟨pre,post,e1,e2,h⟩
  cases post with
  | nil=>simp at e2
  | cons x post =>
   simp only [List.map_cons,List.cons.injEq] at e2
   obtain ⟨rfl,rfl⟩:=e2
   exact hs pre x post e1 ρ μ N (fun ρ μ q=>hN ρ μ ⟨pre ++ [x],post,by rw [e1]; simp,rfl,q⟩) h
 ·rintro ρ μ ⟨pre,post,e1,e2,h⟩
  have:post=[]:=by simpa using e2.symm
  subst this
  have:l=pre:=by simpa using e1
  exact he ρ μ (this ▸ h)
theorem lt_ext:∀ {r r':List Nat},r.Pairwise (· < ·)→r'.Pairwise (· < ·)→(∀ x,x∈r↔x∈r')→r=r'
 | [],[],_,_,_=>rfl
 | [],y :: r',_,_,h=>by have:=(h y).mpr (by simp); simp at this
 | x :: r,[],_,_,h=>by have:=(h x).mp (by simp); simp at this
 | x :: r,y :: r',u1,u2,h=>by
  simp only [List.pairwise_cons] at u1 u2
  have e:x=y:=by
   have hx:=(h x).mp (by simp)
   have hy:=(h y).mpr (by simp)
   rcases List.mem_cons.mp hx with e | hx
   ·exact e
   ·rcases List.mem_cons.mp hy with e | hy
    ·exact e.symm
    ·have a:=u2.1 x hx; have b:=u1.1 y hy; omega
  subst e
  congr 1
  refine lt_ext u1.2 u2.2 fun z=>?_
  have:=h z
  constructor
  ·intro hz
   rcases List.mem_cons.mp (this.mp (by simp [hz])) with e | q
   ·subst e; have:=u1.1 z hz; omega
   ·exact q
  ·intro hz
   rcases List.mem_cons.mp (this.mpr (by simp [hz])) with e | q
   ·subst e; have:=u2.1 z hz; omega
   ·exact q
theorem Xaz {L w:List Nat} (hL:L.Pairwise (· < ·)) (h:Good L w):L.filter (fun x=>decide (x∈w))=w:=by
 refine lt_ext (List.Pairwise.filter _ hL) h.2.1 fun x=>?_
 simp only [List.mem_filter,decide_eq_true_eq]
 exact ⟨fun z=>z.2,fun z=>⟨h.2.2 x z,z⟩⟩
theorem mask:∀ n,n≤4→∀ b0 b1 b2 b3:Bool,∃ m:Nat,m < 2 ^ n∧∀ k,k < n→decide ((m:Int) / 2 ^ k % 2=1)=([b0,b1,b2,b3][k]?.getD false):=by decide
theorem ways_mem {L w:List Nat} (hL:L.Pairwise (· < ·)) (h4:L.length≤4):w∈ways L↔Good L w:=by
 refine ⟨Waq hL,fun h=>?_⟩
 unfold ways
 refine List.mem_filter.mpr ⟨List.mem_map.mpr ?_,by have:=h.1; simp; omega⟩
 let p:Nat→Bool:=fun k=>decide ((L[k]?.getD 0)∈w)
 obtain ⟨m,hm,hk⟩:=mask L.length h4 (p 0) (p 1) (p 2) (p 3)
 refine ⟨m,List.mem_range.mpr hm,?_⟩
 have hk':∀ k,k < L.length→decide ((m:Int) / 2 ^ k % 2=1)=p k:=by
  intro k q
  rw [hk k q]
  have:k=0∨k=1∨k=2∨k=3:=by omega
  rcases this with rfl | rfl | rfl | rfl <;> rfl
 have e:pick L m=L.filter (fun x=>decide (x∈w)):=by
  unfold pick
  have e1:(List.range L.length).filter (fun k=>decide ((m:Int) / 2 ^ k % 2=1))=(List.range L.length).filter p:=List.filter_congr fun k q=>hk' k (List.mem_range.mp q)
  rw [e1]
  have e2:L=(List.range L.length).map (fun k=>L[k]?.getD 0):=by
   apply List.ext_getElem?
   intro i
   by_cases c:i < L.length
   ·simp [c]
   ·simp [c,Nat.le_of_not_lt c]
  conv=>rhs; rw [e2]
  rw [List.filter_map]
  rfl
 rw [e,Xaz hL h]
noncomputable def subs (L:List Nat):List (List Nat):=L.foldl (fun told d=>told ++ told.map (· ++ [d])) [[]]
theorem Zaj:∀ (L:List Nat) (acc:List (List Nat)) (w:List Nat),w∈L.foldl (fun told d=>told ++ told.map (· ++ [d])) acc↔∃ a∈acc,∃ s,s.Sublist L∧w=a ++ s
 | [],acc,w=>by simp
 | x :: L,acc,w=>by
  rw [List.foldl_cons,Zaj L]
  constructor
  ·rintro ⟨a,ha,s,hs,rfl⟩
   rcases List.mem_append.mp ha with ha | ha
   ·exact ⟨a,ha,s,hs.cons _,rfl⟩
   ·obtain ⟨a',ha',rfl⟩:=List.mem_map.mp ha
    exact ⟨a',ha',x :: s,hs.cons_cons _,by simp⟩
  ·rintro ⟨a,ha,s,hs,rfl⟩
   cases hs with
   | cons _ h=>exact ⟨a,by simp [ha],s,h,rfl⟩
   | cons_cons _ h=>rename_i s'; exact ⟨a ++ [x],by simp; exact .inr ha,s',h,by simp⟩
theorem Yaj:∀ (L:List Nat) (acc:List (List Nat)),(L.foldl (fun told d=>told ++ told.map (· ++ [d])) acc).length=acc.length * 2 ^ L.length
 | [],acc=>by simp
 | x :: L,acc=>by rw [List.foldl_cons,Yaj L]; simp [Nat.pow_succ]; rw [← Nat.two_mul,Nat.mul_assoc,Nat.mul_left_comm,Nat.mul_comm (2 ^ _) 2]
noncomputable def chs (L:List Nat):List (List Nat):=(subs L).filter fun w=>decide (1 < w.length)
theorem chs_mem {L w:List Nat} (hL:L.Pairwise (· < ·)):w∈chs L↔Good L w:=by
 unfold chs
 rw [List.mem_filter]
 unfold subs
 rw [Zaj]
 simp only [List.mem_singleton,exists_eq_left,List.nil_append,decide_eq_true_eq]
 constructor
 ·rintro ⟨⟨s,hs,rfl⟩,h⟩
  exact ⟨h,List.Pairwise.sublist hs hL,fun x hx=>hs.subset hx⟩
 ·intro h
  exact ⟨⟨w,by have:=List.filter_sublist (p:=fun x=>decide (x∈w)) (l:=L); rw [Xaz hL h] at this; exact this,rfl⟩,h.1⟩
theorem fold_min:∀ (l:List Int) (i:Int),l.foldl min i≤i∧(∀ x∈l,l.foldl min i≤x)∧(l.foldl min i=i∨l.foldl min i∈l)
 | [],i=>by simp
 | y :: l,i=>by
  obtain ⟨a,b,c⟩:=fold_min l (min i y)
  rw [List.foldl_cons]
  refine ⟨by omega,?_,?_⟩
  ·intro x hx
   rcases List.mem_cons.mp hx with rfl | hx
   ·omega
   ·exact b x hx
  ·rcases c with c | c
   ·rw [c]
    by_cases q:i≤y
    ·left; omega
    ·right; rw [show min i y=y by omega]; simp
   ·right; exact List.mem_cons_of_mem _ c
noncomputable def mn (l:Ly) (w:List Nat):Int:=match w.map (gt l) with | []=>0 | i :: is=>is.foldl min i
theorem mn_le {l:Ly} {w:List Nat} (hw:w≠[]) (x:Int):x≤mn l w↔∀ s∈w,x≤gt l s:=by
 cases w with
 | nil=>exact absurd rfl hw
 | cons a w =>
  show x≤(w.map (gt l)).foldl min (gt l a)↔_
  obtain ⟨h1,h2,h3⟩:=fold_min (w.map (gt l)) (gt l a)
  constructor
  ·intro h s hs
   rcases List.mem_cons.mp hs with rfl | hs
   ·omega
   ·have:=h2 _ (List.mem_map.mpr ⟨s,hs,rfl⟩); omega
  ·intro h
   rcases h3 with h3 | h3
   ·rw [h3]; exact h a (by simp)
   ·obtain ⟨s,hs,e⟩:=List.mem_map.mp h3
    rw [← e]; exact h s (by simp [hs])
noncomputable def bare (l:Ly):List Nat:=(List.range l.length).filter fun i=>decide (gt l i=0)
noncomputable def full (l:Ly):List Nat:=(List.range l.length).filter fun i=>decide (0 < gt l i)
theorem Zan (l:Ly):(full l).Pairwise (· < ·):=List.Pairwise.filter _ List.pairwise_lt_range
theorem Zw (l:Ly):(full l).length≤l.length:=by have:=List.length_filter_le (fun i=>decide (0 < gt l i)) (List.range l.length); simpa [full] using this
theorem Zap (l:Ly):(bare l).length≤l.length:=by have:=List.length_filter_le (fun i=>decide (gt l i=0)) (List.range l.length); simpa [bare] using this
noncomputable abbrev Ph:=Nat×List Nat×Int
noncomputable def phP (p:Ph):D:=phD p.1 p.2.1 p.2.2
noncomputable def tms (l:Ly) (t:Nat) (w:List Nat):List Ph:=(List.range (mn l w).toNat).map fun (j:Nat)=>(t,w,1 + (j:Int))
noncomputable def progP (l:Ly):List Ph:=(chs (full l)).flatMap fun w=>(bare l).flatMap fun t=>tms l t w
noncomputable def lawP (l:Ly):List Ph:=(bare l).flatMap fun t=>(ways (full l)).flatMap fun w=>tms l t w
theorem tms_mem {l:Ly} {t:Nat} {w:List Nat} {p:Ph}:p∈tms l t w↔p.1=t∧p.2.1=w∧1≤p.2.2∧p.2.2≤mn l w:=by
 unfold tms
 obtain ⟨a,b,x⟩:=p
 simp only [List.mem_map,List.mem_range,Prod.mk.injEq]
 constructor
 ·rintro ⟨j,hj,rfl,rfl,rfl⟩; exact ⟨rfl,rfl,by omega,by omega⟩
 ·rintro ⟨rfl,rfl,h1,h2⟩; exact ⟨(x - 1).toNat,by omega,rfl,rfl,by omega⟩
theorem ph_iff {l:Ly} {p:Ph}:(p.1∈bare l∧Good (full l) p.2.1∧1≤p.2.2∧p.2.2≤mn l p.2.1)↔isPh l p.1 p.2.1 p.2.2:=by
 obtain ⟨t,w,x⟩:=p
 simp only [bare,full,List.mem_filter,List.mem_range,decide_eq_true_eq,Good,isPh]
 constructor
 ·rintro ⟨⟨h1,h2⟩,⟨h3,h4,h5⟩,h6,h7⟩
  have hw:w≠[]:=by rintro rfl; simp at h3
  exact ⟨h1,h2,h6,h3,h4,fun s hs=>⟨(h5 s hs).1,(mn_le hw x).mp h7 s hs⟩⟩
 ·rintro ⟨h1,h2,h6,h3,h4,h5⟩
  have hw:w≠[]:=by rintro rfl; simp at h3
  exact ⟨⟨h1,h2⟩,⟨h3,h4,fun s hs=>⟨(h5 s hs).1,by have:=(h5 s hs).2; omega⟩⟩,h6,(mn_le hw x).mpr fun s hs=>(h5 s hs).2⟩
theorem progP_mem {l:Ly} {p:Ph}:p∈progP l↔isPh l p.1 p.2.1 p.2.2:=by
 rw [← ph_iff]
 unfold progP
 simp only [List.mem_flatMap,tms_mem,chs_mem (Zan l)]
 constructor
 ·rintro ⟨w,hw,t,ht,rfl,rfl,h⟩; exact ⟨ht,hw,h⟩
 ·rintro ⟨a,b,c⟩; exact ⟨_,b,_,a,rfl,rfl,c⟩
theorem lawP_mem {l:Ly} (hl:l.length≤4) {p:Ph}:p∈lawP l↔isPh l p.1 p.2.1 p.2.2:=by
 rw [← ph_iff]
 unfold lawP
 simp only [List.mem_flatMap,tms_mem,ways_mem (Zan l) (Nat.le_trans (Zw l) hl)]
 constructor
 ·rintro ⟨t,ht,w,hw,rfl,rfl,h⟩; exact ⟨ht,hw,h⟩
 ·rintro ⟨a,b,c⟩; exact ⟨_,a,_,b,rfl,rfl,c⟩
theorem Wg {α β:Type} (f:α→List β) (b:Nat):∀ (l:List α),(∀ x∈l,(f x).length≤b)→(l.flatMap f).length≤l.length * b
 | [],_=>by simp
 | x :: l,h=>by
  have:=Wg f b l fun y hy=>h y (by simp [hy])
  have:=h x (by simp)
  simp only [List.flatMap_cons,List.length_append,List.length_cons,Nat.add_mul]
  omega
theorem Zal {l:Ly} (h:Ok4 l) {w:List Nat}:mn l w≤9:=by
 cases w with
 | nil=>simp [mn]
 | cons a w =>
  have h1:=(mn_le (l:=l) (w:=a :: w) (by simp) _).mp (Int.le_refl _) a (by simp)
  have:gt l a≤9:=by
   by_cases c:a < l.length
   ·have:=Ybe h.2.1 (K:=[a]) (by simp) (by simpa using c)
    have:=h.2.2
    simp at *
    omega
   ·rw [show gt l a=0 by unfold gt; rw [List.getElem?_eq_none (by omega)]; rfl]; decide
  omega
end DW.LYR
end
section
set_option autoImplicit false
namespace DW.LYR
open PySem DW DW.K03
theorem Vb {μ ν:Mem} {c:Cell}:(μ ++ c :: ν)[μ.length]? = some c:=by simp
theorem Xq {μ ν:Mem} {c d:Cell}:(μ ++ c :: ν).set μ.length d=μ ++ d :: ν:=by simp
noncomputable def tN (w:List Nat):D:=.tup (nats w)
def sp_source_choices:DSp:=fun ds μ Q=>∃ L:List Nat,ds=[.lst (nats L)]∧L.length≤4∧Q (.lst ((chs L).map tN)) μ
def n_source_choices:List Str:=["drives","told","drive"]
noncomputable def i_source_choices:Ss:=(.cons (.set 1 (.lst false (.cons (.tup .nil) .nil))) (.cons (.for_ [2] false (.seq (.var 0)) (.cons (.set 1 (.cat false (.var 1) (.comp false 1 false [2] (.bin .Add (.var 0) (.tup (.cons (.var 1) .nil))) (.seq (.var 1)) .nil))) .nil)) (.cons (.ret (.comp false 1 false [] (.var 0) (.seq (.var 1)) (.cons (.cmp .Gt (.blt "len" (.cons (.var 0) .nil)) (.cst (.int 1))) .nil))) .nil)))
def sp_phases_of:DSp:=fun ds μ Q=>∃ l:Ly,ds=[lvD l]∧Ok4 l∧∀ (P:List Ph) (ν:Mem),(∀ p:Ph,p∈P↔isPh l p.1 p.2.1 p.2.2)→P.length≤1000→Q (.lst (P.map phP)) (μ ++ ν)
def spL_phases:DSp:=fun ds μ Q=>∃ l:Ly,ds=[lvD l]∧Ok4 l∧∀ (P:List Ph) (ν:Mem),(∀ p:Ph,p∈P↔isPh l p.1 p.2.1 p.2.2)→P.length≤1000→Q (.lst (P.map phP)) (μ ++ ν)
def n_phases_of:List Str:=["layout","bare","others","told","sources","least","target"]
noncomputable def i_phases_of:Ss:=(.cons (.set 1 (.comp false 1 false [0] (.var 0) (.rng (.cons (.blt "len" (.cons (.var 0) .nil)) .nil)) (.cons (.cmp .Eq (.idx (.var 1) (.var 0)) (.cst (.int 0))) .nil))) (.cons (.set 2 (.comp false 1 false [0] (.var 0) (.rng (.cons (.blt "len" (.cons (.var 0) .nil)) .nil)) (.cons (.cmp .Gt (.idx (.var 1) (.var 0)) (.cst (.int 0))) .nil))) (.cons (.set 3 (.lst true .nil)) (.cons (.for_ [4] false (.seq (.call "source_choices" sp_source_choices (.cons (.var 2) .nil))) (.cons (.set 5 (.blt "min" (.cons (.comp false 1 false [0] (.idx (.var 1) (.var 0)) (.seq (.var 4)) .nil) .nil))) (.cons (.for_ [6] false (.seq (.var 1)) (.cons (.exp (.meth "extend" (.var 3) (.cons (.comp false 1 false [6,4] (.tup (.cons (.var 1) (.cons (.var 2) (.cons (.var 0) .nil)))) (.rng (.cons (.cst (.int 1)) (.cons (.bin .Add (.var 5) (.cst (.int 1))) .nil))) .nil) .nil))) .nil)) .nil))) (.cons (.ret (.frz (.var 3))) .nil)))))
def nL_phases:List Str:=["layout","found","target","full","sources","times"]
noncomputable def iL_phases:Ss:=(.cons (.set 1 (.lst true .nil)) (.cons (.for_ [2] false (.rng (.cons (.blt "len" (.cons (.var 0) .nil)) .nil)) (.cons (.ite (.cmp .Eq (.idx (.var 0) (.var 2)) (.cst (.int 0))) (.cons (.set 3 (.comp false 1 false [0] (.var 0) (.rng (.cons (.blt "len" (.cons (.var 0) .nil)) .nil)) (.cons (.cmp .Gt (.idx (.var 1) (.var 0)) (.cst (.int 0))) .nil))) (.cons (.for_ [4] false (.seq (.call "_law_ways" spL_ways (.cons (.var 3) .nil))) (.cons (.for_ [5] false (.rng (.cons (.cst (.int 1)) (.cons (.bin .Add (.cst (.int 1)) (.blt "min" (.cons (.comp false 1 false [0] (.idx (.var 1) (.var 0)) (.seq (.var 4)) .nil) .nil))) .nil))) (.cons (.exp (.meth "append" (.var 1) (.cons (.tup (.cons (.var 2) (.cons (.var 4) (.cons (.var 5) .nil)))) .nil))) .nil)) .nil)) .nil)) .nil) .nil)) (.cons (.ret (.frz (.var 1))) .nil)))
theorem k_source_choices:Keeps n_source_choices i_source_choices sp_source_choices:=by
 rintro ds μ Q ⟨L,rfl,h4,q⟩
 simp only [i_source_choices,n_source_choices,Yd,topZ,wSs,wS,wE,wEs,wI,newL,List.map_cons,List.map_nil,List.length_cons,List.length_nil,List.cons_append,List.nil_append,List.getElem?_cons_zero,List.getElem?_cons_succ,List.replicate,List.set_cons_succ,List.set_cons_zero]
 refine ⟨by decide,by decide,?_⟩
 simp only [wSeq,nats]
 refine Ze Zd L (fun pre ρ μ'=>μ'=μ∧∃ a,ρ=[some (.lst (nats L)),some (.lst ((subs pre).map tN)),a]) ?_ ?_ _ _ ⟨rfl,none,rfl⟩
 ·rintro pre x post e ρ μ1 N hN ⟨rfl,a,rfl⟩
  refine ⟨trivial,?_⟩
  have hpl:pre.length + 1≤4:=by rw [e] at h4; simp at h4; omega
  have h16:(subs pre).length≤8:=by
   unfold subs; rw [Yaj]
   have:2 ^ pre.length≤2 ^ 3:=Nat.pow_le_pow_right (by omega) (by omega)
   simpa using this
  simp only [Yg,List.set_cons_succ,List.set_cons_zero,List.getElem?_cons_zero,List.getElem?_cons_succ,wSeq,List.map_cons,List.map_nil,Option.join_some]
  refine Zq tN (fun w=>tN (w ++ [x])) trivial _ _ ?_ ?_
  ·intro w hw Y N' z
   have hwl:w.length≤4:=by
    unfold subs at hw
    obtain ⟨a,ha,s,hs,rfl⟩:=(Zaj pre [[]] w).mp hw
    have:a=[]:=by simpa using ha
    subst this
    have:=hs.length_le
    simp; omega
   simp only [bindC,wTs,wE,wEs,wBin,tN,nats,List.cons_append,List.nil_append,List.getElem?_cons_zero,List.getElem?_cons_succ,if_true,List.length_cons,List.length_nil,List.length_map,lim]
   refine ⟨by omega,by omega,?_⟩
   simpa [tN,nats] using z
  ·simp only [wCat,wlOf,newL,List.nil_append,List.length_map,lim]
   refine ⟨by omega,hN _ _ ⟨rfl,some (Zd x),?_⟩⟩
   have:subs (pre ++ [x])=subs pre ++ (subs pre).map (· ++ [x]):=by unfold subs; rw [List.foldl_append]; rfl
   rw [this]
   simp [tN,Function.comp_def]
 ·rintro ρ μ1 ⟨rfl,a,rfl⟩
  refine ⟨trivial,?_⟩
  simp only [wSeq,List.getElem?_cons_zero,List.getElem?_cons_succ,List.map_nil]
  refine Vf tN (fun w=>decide (1 < w.length)) tN trivial _ _ ?_ ?_
  ·intro w hw Y N' z
   simp only [bindC,wTs,wT,wE,wEs,wBlt,lenOf,Yb,wCmp,wBl,tN,nats,List.getElem?_cons_zero,Option.map_some,List.length_map]
   have:decide ((1:Int) < (w.length:Int))=decide (1 < w.length):=by rw [Bool.eq_iff_iff]; simp; omega
   rw [this]
   exact z
  ·rw [List.nil_append]; exact q
theorem Xao {Q:List D→Mem→Prop} {μ:Mem} (l:Ly) (p:Nat→Bool) (cond:Es) (hc:∀ i,i < l.length→∀ (Y:Bool→Mem→Prop),Y (p i) μ→wTs cond [some (.int (i:Int)),some (lvD l)] μ Y)
  (q:Q ((((List.range l.length).filter p)).map Zd) μ) :
  Vs (fun d k=>bindC 1 false d [some (lvD l)] k) (fun ρ' μ' Q'=>wTs cond ρ' μ' Q') (fun ρ' μ' Q'=>wE (.var 0) ρ' μ' Q') (fun _=>True) ((List.range l.length).map Zd) [] μ Q:=by
 refine Vf Zd p Zd trivial _ _ ?_ (by rw [List.nil_append]; exact q)
 intro i hi Y N z
 simp only [bindC,Zd]
 refine hc i (List.mem_range.mp hi) _ ?_
 simp only [wE,List.getElem?_cons_zero]
 exact z
theorem cond_eq {l:Ly} {i:Nat} {μ:Mem} (hi:i < l.length) (Y:Bool→Mem→Prop) (q:Y (decide (gt l i=0)) μ):wTs (.cons (.cmp .Eq (.idx (.var 1) (.var 0)) (.cst (.int 0))) .nil) [some (.int (i:Int)),some (lvD l)] μ Y:=by
 simp only [wTs,wT,wE,List.getElem?_cons_zero,List.getElem?_cons_succ]
 refine at_lv hi ?_
 simp only [wCmp,flat,eqD,wBl,true_and]
 have:(gt l i == 0)=decide (gt l i=0):=by rw [Bool.eq_iff_iff]; simp
 rw [this]; exact q
theorem cond_gt {l:Ly} {i:Nat} {μ:Mem} (hi:i < l.length) (Y:Bool→Mem→Prop) (q:Y (decide (0 < gt l i)) μ):wTs (.cons (.cmp .Gt (.idx (.var 1) (.var 0)) (.cst (.int 0))) .nil) [some (.int (i:Int)),some (lvD l)] μ Y:=by
 simp only [wTs,wT,wE,List.getElem?_cons_zero,List.getElem?_cons_succ]
 refine at_lv hi ?_
 simp only [wCmp,wBl]
 exact q
theorem len_lv (l:Ly) (ν:Mem) (Q:QD):wBlt "len" [lvD l] ν Q=Q (.int (l.length:Int)) ν:=by simp [wBlt,lenOf,Yb,lvD]
theorem min_w {l:Ly} {w:List Nat} (hw:Good (full l) w) {μ:Mem} {Q:QD} (q:Q (.int (mn l w)) μ) :
  Vs (fun d k=>bindC 1 false d [some (lvD l)] k) (fun ρ' μ' Q'=>wTs .nil ρ' μ' Q') (fun ρ' μ' Q'=>wE (.idx (.var 1) (.var 0)) ρ' μ' Q') (fun _=>True) (nats w) [] μ fun vs μ2=>wBlt "min" [.lst vs] μ2 Q:=by
 refine Zq Zd (fun k=>.int (gt l k)) trivial _ _ ?_ ?_
 ·intro k hk Y N z
  have hk':k < l.length:=by have:=hw.2.2 k hk; simp only [full,List.mem_filter,List.mem_range] at this; exact this.1
  simp only [bindC,wTs,wE,Zd,List.getElem?_cons_zero,List.getElem?_cons_succ,if_true]
  exact at_lv hk' z
 ·simp only [List.nil_append,wBlt,Wm,Yb,Option.bind_some]
  have e:Vt (w.map fun k=>D.int (gt l k))=some (w.map (gt l)):=Yab (gt l) w
  rw [e]
  match w,hw with
  | [],hw=>have:=hw.1; simp at this
  | a :: w,hw=>exact q
theorem mem_good {l:Ly} {w:List Nat} (h:Ok4 l) (hw:w∈chs (full l)):Good (full l) w:=(chs_mem (Zan l)).mp hw
theorem ok_len {l:Ly} (h:Ok4 l):l.length≤4:=by rcases h.1 with q | q <;> omega
theorem Xai {l:Ly} (h:Ok4 l) (t:Nat) (w:List Nat):(tms l t w).length≤9:=by
 unfold tms; have:=Zal h (w:=w); simp; omega
theorem rng_ph {l:Ly} (h:Ok4 l) (w:List Nat):Zk 1 ((mn l w + 1) - 1).toNat=(List.range (mn l w).toNat).map fun (j:Nat)=>D.int (1 + (j:Int)):=by
 rw [show mn l w + 1 - 1=mn l w by omega]; rfl
theorem rng_ph' {l:Ly} (h:Ok4 l) (w:List Nat):Zk 1 ((1 + mn l w) - 1).toNat=(List.range (mn l w).toNat).map fun (j:Nat)=>D.int (1 + (j:Int)):=by
 rw [show 1 + mn l w - 1=mn l w by omega]; rfl
theorem Vba {μ:Mem} {c:Cell} {n:Nat}:(μ ++ [c])[μ.length]? = some c:=by simp
theorem k_phases_of:Keeps n_phases_of i_phases_of sp_phases_of:=by
 rintro ds μ Q ⟨l,rfl,hl,q⟩
 have l4:=ok_len hl
 simp only [i_phases_of,n_phases_of,Yd,topZ,wSs,wS,wE,wEs,wI,newL,wRng,Wz,len_lv,List.map_cons,List.map_nil,List.length_cons,List.length_nil,List.cons_append,List.nil_append,List.getElem?_cons_zero,List.getElem?_cons_succ,List.replicate,List.set_cons_succ,List.set_cons_zero,Option.join_some,Int.toNat_natCast,Xm]
 refine ⟨by simp only [lim]; omega,by omega,Xao l _ _ (fun i hi Y z=>cond_eq hi Y z) ?_⟩
 refine ⟨by simp only [lim]; omega,by omega,Xao l _ _ (fun i hi Y z=>cond_gt hi Y z) ?_⟩
 refine ⟨by decide,full l,rfl,Nat.le_trans (Zw l) l4,?_⟩
 simp only [wSeq]
 have hcl:(chs (full l)).length≤16:=by
  unfold chs
  refine Nat.le_trans (List.length_filter_le _ _) ?_
  unfold subs; rw [Yaj]
  have:2 ^ (full l).length≤2 ^ 4:=Nat.pow_le_pow_right (by omega) (Nat.le_trans (Zw l) l4)
  simpa using this
 have hin:∀ w,((bare l).flatMap fun t=>tms l t w).length≤36:=fun w=>by
  have:=Wg (fun t=>tms l t w) 9 (bare l) fun t _=>Xai hl t w
  have:=Zap l
  omega
 refine Ze tN (chs (full l)) (fun pre ρ μ'=>∃ a b c,ρ=[some (lvD l),some (.lst (nats (bare l))),some (.lst (nats (full l))),some (.loc μ.length),a,b,c]∧μ'=μ ++ [.lst ((pre.flatMap fun w=>(bare l).flatMap fun t=>tms l t w).map phP)]) ?_ ?_ _ _ ⟨none,none,none,rfl,rfl⟩
 ·rintro pre w post e ρ μ1 N hN ⟨a,b,c,rfl,rfl⟩
  refine ⟨trivial,?_⟩
  have hw:Good (full l) w:=mem_good hl (by rw [e]; simp)
  have hpl:pre.length≤16:=by rw [e] at hcl; simp at hcl; omega
  have hpre:(pre.flatMap fun w=>(bare l).flatMap fun t=>tms l t w).length≤576:=by
   have:=Wg (fun w=>(bare l).flatMap fun t=>tms l t w) 36 pre fun w _=>hin w
   omega
  simp only [Yg,tN,List.set_cons_succ,List.set_cons_zero,List.getElem?_cons_zero,List.getElem?_cons_succ,wSeq,Option.join_some]
  refine min_w hw ?_
  refine Ze Zd (bare l) (fun pr ρ μ'=>∃ c,ρ=[some (lvD l),some (.lst (nats (bare l))),some (.lst (nats (full l))),some (.loc μ.length),some (tN w),some (.int (mn l w)),c]∧μ'=μ ++ [.lst (((pre.flatMap fun w=>(bare l).flatMap fun t=>tms l t w) ++ pr.flatMap fun t=>tms l t w).map phP)]) ?_ ?_ _ _ ⟨_,rfl,by simp⟩
  ·rintro pr t po e2 ρ μ2 N2 hN2 ⟨c,rfl,rfl⟩
   refine ⟨trivial,?_⟩
   have hprl:pr.length≤4:=by have:=Zap l; rw [e2] at this; simp at this; omega
   have hpr:(pr.flatMap fun t=>tms l t w).length≤36:=by
    have:=Wg (fun t=>tms l t w) 9 pr fun t _=>Xai hl t w
    omega
   have m9:=Zal hl (w:=w)
   have m1:1≤mn l w:=(mn_le (by rintro rfl; have:=hw.1; simp at this) 1).mpr fun s hs=>by
    have:=hw.2.2 s hs; simp only [full,List.mem_filter,decide_eq_true_eq] at this; omega
   simp only [Yg,List.set_cons_succ,List.set_cons_zero,List.getElem?_cons_zero,List.getElem?_cons_succ,isCell,Vba (n:=0),wBin,Option.join_some]
   refine ⟨trivial,⟨by simp only [lim]; omega,by omega,by omega,by omega,by omega⟩,?_⟩
   rw [rng_ph hl]
   refine Zq (fun (j:Nat)=>D.int (1 + (j:Int))) (fun (j:Nat)=>phP (t,w,1 + (j:Int))) trivial _ _ ?_ ?_
   ·intro j hj Y N' z
    simp only [bindC,wTs,wE,wEs,Zd,List.cons_append,List.nil_append,List.getElem?_cons_zero,List.getElem?_cons_succ,if_true,List.length_cons,List.length_nil]
    exact ⟨by decide,z⟩
   ·simp only [List.nil_append,Zu,Vba (n:=0),Yl,wlT,wlOf,List.length_map,List.length_append,List.length_range,lim]
    refine ⟨by omega,hN2 _ _ ⟨_,rfl,?_⟩⟩
    rw [Z5]
    simp [tms,Function.comp_def]
  ·rintro ρ μ2 ⟨c,rfl,rfl⟩
   refine ⟨trivial,hN _ _ ⟨_,_,_,rfl,?_⟩⟩
   simp
 ·rintro ρ μ1 ⟨a,b,c,rfl,rfl⟩
  refine ⟨trivial,?_⟩
  simp only [List.getElem?_cons_zero,List.getElem?_cons_succ,wFrz,Vba (n:=0),Z5]
  refine q (progP l) [.gone] (fun p=>progP_mem) ?_
  have:=Wg (fun w=>(bare l).flatMap fun t=>tms l t w) 36 (chs (full l)) fun w _=>hin w
  unfold progP
  omega
theorem kL_phases : Keeps nL_phases iL_phases spL_phases := by
  rintro ds μ Q ⟨l, rfl, hl, q⟩
  have l4 := ok_len hl
  simp only [iL_phases, nL_phases, Yd, topZ, wSs, wS, wE, wEs, wI, newL, wRng, Wz, len_lv, List.map_cons, List.map_nil, List.length_cons, List.length_nil, List.cons_append, List.nil_append, List.getElem?_cons_zero, List.getElem?_cons_succ, List.replicate, List.set_cons_succ, List.set_cons_zero, Option.join_some, Int.toNat_natCast, Xm]
  refine ⟨by decide, by simp only [lim]; omega, by omega, ?_⟩
  have hcl : (ways (full l)).length ≤ 16 := by
    unfold ways
    refine Nat.le_trans (List.length_filter_le _ _) ?_
    have : 2 ^ (full l).length ≤ 2 ^ 4 := Nat.pow_le_pow_right (by omega) (Nat.le_trans (Zw l) l4)
    simpa using this
  have hin : ∀ t, ((ways (full l)).flatMap fun w => tms l t w).length ≤ 144 := fun t => by
    have := Wg (fun w => tms l t w) 9 (ways (full l)) fun w _ => Xai hl t w
    omega
  refine Ze Zd (List.range l.length) (fun pre ρ μ' => ∃ a b c d ν, ρ = [some (lvD l), some (.loc μ.length), a, b, c, d] ∧ μ' = μ ++ .lst (((pre.filter fun i => decide (gt l i = 0)).flatMap fun t => (ways (full l)).flatMap fun w => tms l t w).map phP) :: ν) ?_ ?_ _ _ ⟨none, none, none, none, [], rfl, rfl⟩
  · rintro pre t post e ρ μ1 N hN ⟨a, b, c, d, ν, rfl, rfl⟩
    refine ⟨trivial, ?_⟩
    have ht : t < l.length := by have : t ∈ List.range l.length := by rw [e]; simp
                                 exact List.mem_range.mp this
    have hpl : (pre.filter fun i => decide (gt l i = 0)).length ≤ 4 := by
      have h1 := List.length_filter_le (fun i => decide (gt l i = 0)) pre
      have h2 := congrArg List.length e
      simp at h2
      omega
    simp only [Yg, Zd, List.set_cons_succ, List.set_cons_zero, List.getElem?_cons_zero, List.getElem?_cons_succ, wT, wE]
    refine at_lv ht ?_
    simp only [wCmp, flat, eqD, wBl, true_and]
    have hpre : ((pre.filter fun i => decide (gt l i = 0)).flatMap fun t => (ways (full l)).flatMap fun w => tms l t w).length ≤ 576 := by
      have := Wg (fun t => (ways (full l)).flatMap fun w => tms l t w) 144 (pre.filter fun i => decide (gt l i = 0)) fun t _ => hin t
      omega
    by_cases c0 : gt l t = 0
    · have ef : (pre ++ [t]).filter (fun i => decide (gt l i = 0)) = pre.filter (fun i => decide (gt l i = 0)) ++ [t] := by rw [List.filter_append]; simp [c0]
      rw [ef] at hN
      generalize hF : (pre.filter fun i => decide (gt l i = 0)) = F at hN hpre hpl ⊢
      simp only [c0, beq_self_eq_true, if_true, wSs, wS, wE, wEs, wI, wRng, Wz, len_lv, List.getElem?_cons_zero, List.getElem?_cons_succ, List.set_cons_succ, List.set_cons_zero, List.map_cons, List.map_nil, Option.join_some, Int.toNat_natCast, Xm, newL]
      refine ⟨by simp only [lim]; omega, by omega, Xao l _ _ (fun i hi Y z => cond_gt hi Y z) ?_⟩
      refine ⟨full l, rfl, by have := Zw l; omega, fun c' => ?_⟩
      simp only [wSeq]
      refine Ze tN (ways (full l)) (fun pr ρ μ' => ∃ c d ν, ρ = [some (lvD l), some (.loc μ.length), some (.int (t : Int)), some (.lst (nats (full l))), c, d] ∧ μ' = μ ++ .lst (((F.flatMap fun t => (ways (full l)).flatMap fun w => tms l t w) ++ pr.flatMap fun w => tms l t w).map phP) :: ν) ?_ ?_ _ _ ⟨_, _, ν ++ [c'], rfl, by simp⟩
      · rintro pr w po e2 ρ μ2 N2 hN2 ⟨c, d, ν, rfl, rfl⟩
        refine ⟨trivial, ?_⟩
        have hw : Good (full l) w := Waq (Zan l) (by rw [e2]; simp)
        have hprl : pr.length ≤ 16 := by rw [e2] at hcl; simp at hcl; omega
        have hpr : (pr.flatMap fun w => tms l t w).length ≤ 144 := by
          have := Wg (fun w => tms l t w) 9 pr fun w _ => Xai hl t w
          omega
        have m9 := Zal hl (w := w)
        have m1 : 1 ≤ mn l w := (mn_le (by rintro rfl; have := hw.1; simp at this) 1).mpr fun s hs => by
          have := hw.2.2 s hs; simp only [full, List.mem_filter, decide_eq_true_eq] at this; omega
        simp only [Yg, tN, List.set_cons_succ, List.set_cons_zero, List.getElem?_cons_zero, List.getElem?_cons_succ, wSeq, Option.join_some]
        refine min_w hw ?_
        simp only [wBin]
        refine ⟨⟨by simp only [lim]; omega, by omega, by omega, by omega, by omega⟩, ?_⟩
        rw [rng_ph' hl]
        refine Ze (fun (j : Nat) => D.int (1 + (j : Int))) (List.range (mn l w).toNat) (fun ps ρ μ' => ∃ d, ρ = [some (lvD l), some (.loc μ.length), some (.int (t : Int)), some (.lst (nats (full l))), some (tN w), d] ∧ μ' = μ ++ .lst (((F.flatMap fun t => (ways (full l)).flatMap fun w => tms l t w) ++ (pr.flatMap fun w => tms l t w) ++ ps.map fun (j : Nat) => (t, w, 1 + (j : Int))).map phP) :: ν) ?_ ?_ _ _ ⟨_, rfl, by simp⟩
        · rintro ps j pq e3 ρ μ3 N3 hN3 ⟨d, rfl, rfl⟩
          refine ⟨trivial, ?_⟩
          have hps : ps.length ≤ 9 := by
            have h2 := congrArg List.length e3
            simp at h2
            omega
          simp only [Yg, List.set_cons_succ, List.set_cons_zero, List.getElem?_cons_zero, List.getElem?_cons_succ, isCell, Vb, Zu, Yl, List.length_cons, List.length_nil, List.length_map, List.length_append, lim]
          refine ⟨trivial, by decide, by omega, hN3 _ _ ⟨_, rfl, ?_⟩⟩
          rw [Xq]
          simp [phP, phD, Zd, tN, nats]
        · rintro ρ μ3 ⟨d, rfl, rfl⟩
          refine ⟨trivial, hN2 _ _ ⟨_, _, ν, rfl, ?_⟩⟩
          simp [tms]
      · rintro ρ μ2 ⟨c, d, ν, rfl, rfl⟩
        refine ⟨trivial, hN _ _ ⟨_, _, _, _, ν, rfl, ?_⟩⟩
        simp
    · have c0' : (gt l t == 0) = false := by simpa using c0
      simp only [c0', Bool.false_eq_true, if_false]
      refine hN _ _ ⟨_, _, _, _, ν, rfl, ?_⟩
      rw [List.filter_append]
      simp [c0]
  · rintro ρ μ1 ⟨a, b, c, d, ν, rfl, rfl⟩
    refine ⟨trivial, ?_⟩
    simp only [List.getElem?_cons_zero, List.getElem?_cons_succ, wFrz, Vb, Xq]
    have := Wg (fun t => (ways (full l)).flatMap fun w => tms l t w) 144 (bare l) fun t _ => hin t
    have hb := Zap l
    exact q (lawP l) _ (fun p => lawP_mem l4) (by unfold lawP; omega)
end DW.LYR
end
section
set_option autoImplicit false
namespace DW.LYR
open PySem DW DW.K03
noncomputable def keyI (l:Ly):List DKey:=l.map Sum.inl
theorem keyI_inj {a b:Ly} (h:keyI a=keyI b):a=b:=(List.map_inj_right (fun _ _ e=>Sum.inl.inj e)).mp h
theorem Z6:∀ l:Ly,Zad (l.map D.int)=some (keyI l)
 | []=>rfl
 | i :: l=>by
  simp only [List.map_cons,Zad,keyD,Z6 l,Option.map_some]
  rfl
noncomputable def insK (is:List Ly) (m:Ly):List Ly:=if m∈is then is else is ++ [m]
theorem mem_keys {is:List Ly} {m:Ly}:keyI m∈is.map keyI↔m∈is:=by
 simp only [List.mem_map]
 exact ⟨fun ⟨a,ha,e⟩=>keyI_inj e ▸ ha,fun h=>⟨m,h,rfl⟩⟩
theorem insK_keys (is:List Ly) (m:Ly):Zn (is.map keyI) (keyI m)=(insK is m).map keyI:=by
 unfold Zn insK
 by_cases h:m∈is
 ·rw [if_pos h,if_pos (mem_keys.mpr h)]
 ·rw [if_neg h,if_neg (fun z=>h (mem_keys.mp z))]; simp
theorem X6 {is:List Ly} {m x:Ly}:x∈insK is m↔x∈is∨x=m:=by
 unfold insK
 by_cases h:m∈is
 ·rw [if_pos h]; exact ⟨.inl,fun z=>z.elim id fun e=>e ▸ h⟩
 ·rw [if_neg h]; simp
theorem insK_nd {is:List Ly} {m:Ly} (h:is.Nodup):(insK is m).Nodup:=by
 unfold insK
 by_cases c:m∈is
 ·rw [if_pos c]; exact h
 ·rw [if_neg c,List.nodup_append]
  exact ⟨h,by simp,fun a ha b hb=>by
   have:b=m:=by simpa using hb
   subst this
   exact fun e=>c (e ▸ ha)⟩
theorem insK_len {is:List Ly} {m:Ly}:(insK is m).length≤is.length + 1:=by
 unfold insK; split <;> simp
theorem Van {μ:Mem} {n:Nat} {is:List Ly} {vs:List D} {m:Ly} {v:D} {k:Mem→Prop} (h:μ[n]? = some (.dtc (is.map keyI) vs)) (hl:is.length < lim) (q:∀ vs',k (μ.set n (.dtc ((insK is m).map keyI) vs'))):wDput (.loc n) (lvD m) v μ k:=by
 simp only [wDput,h,lvD,Z6,insK_keys,List.length_map]
 exact ⟨hl,q _⟩
theorem in_ly {μ:Mem} {n:Nat} {is:List Ly} {vs:List D} {m:Ly} {Q:QD} (h:μ[n]? = some (.dtc (is.map keyI) vs)) (q:Q (.bl (!decide (m∈is))) μ):wCmp .NotIn (lvD m) (.loc n) μ Q:=by
 simp only [wCmp,Yb,h,wInD,lvD,Z6]
 have:hasK (is.map keyI) (keyI m)=decide (m∈is):=by rw [Bool.eq_iff_iff,Vv,mem_keys]; simp
 rw [this]
 simpa using q
theorem sum_lv (l:Ly) (ν:Mem) (Q:QD):wBlt "sum" [lvD l] ν Q=Q (.int l.sum) ν:=by simp [wBlt,Yb,lvD,intsD_int]
noncomputable def rowD (r:List Ly):D:=.lst (r.map lvD)
noncomputable def sgl (L:List Ly):List Ly:=L.filter fun o=>decide (o.sum=1)
theorem sgl_ne {L:List Ly}:sgl L≠[]↔Sg L:=by
 unfold sgl Sg
 rw [ne_eq,List.filter_eq_nil_iff]
 simp
theorem comp_sgl {Q:List D→Mem→Prop} {μ:Mem} {g:Mem→Prop} (hg:g μ) (L:List Ly) (q:Q ((sgl L).map lvD) μ) :
  Vs (fun d k=>bindC 1 false d [] k) (fun ρ' μ' Q'=>wTs (.cons (.cmp .Eq (.blt "sum" (.cons (.var 0) .nil)) (.cst (.int 1))) .nil) ρ' μ' Q') (fun ρ' μ' Q'=>wE (.var 0) ρ' μ' Q') g (L.map lvD) [] μ Q:=by
 refine Vf lvD (fun o=>decide (o.sum=1)) lvD hg _ _ ?_ (by rw [List.nil_append]; exact q)
 intro o ho Y N z
 simp only [bindC,wTs,wT,wE,wEs,List.getElem?_cons_zero,sum_lv,wCmp,flat,eqD,wBl,true_and]
 by_cases c:o.sum=1
 ·simp [c] at z ⊢; exact z
 ·simp [c] at z ⊢; exact z
def sp_singles:DSp:=fun ds μ Q=>∃ (a:Nat) (L:List Ly),ds=[.loc a]∧μ[a]? = some (.lst (L.map lvD))∧Q (.lst ((sgl L).map lvD)) μ
def n_singles:List Str:=["layer"]
noncomputable def i_singles:Ss:=(.cons (.ret (.comp false 1 false [] (.var 0) (.seq (.var 0)) (.cons (.cmp .Eq (.blt "sum" (.cons (.var 0) .nil)) (.cst (.int 1))) .nil))) .nil)
theorem k_singles:Keeps n_singles i_singles sp_singles:=by
 rintro ds μ Q ⟨a,L,rfl,ha,q⟩
 simp only [i_singles,n_singles,Yd,topZ,wSs,wS,wE,wI,List.map_cons,List.map_nil,List.length_cons,List.length_nil,List.cons_append,List.nil_append,List.getElem?_cons_zero,List.replicate,wSeq,ha,newL]
 exact comp_sgl ha L q
def sp_next_layer:DSp:=fun ds μ Q=>∃ (a b:Nat) (L sn:List Ly) (vs:List D),ds=[.loc a,.loc b]∧μ[a]? = some (.lst (L.map lvD))∧μ[b]? = some (.dtc (sn.map keyI) vs)∧(∀ o∈L,Ok4 o) ∧
 (∀ M:List Ly,M.Nodup→(∀ m∈M,∃ o∈L,Suc o m)→M.length < 64) ∧
 ∀ (M:List Ly) (ν:Mem),NL L (·∈sn) M→M.length < 64→Q (.loc (μ ++ ν).length) (μ ++ ν ++ [.lst (M.map lvD)])
def n_next_layer:List Str:=["layer","seen","told","layout","phase"]
noncomputable def i_next_layer:Ss:=(.cons (.set 2 (.dnew true)) (.cons (.for_ [3] false (.seq (.var 0)) (.cons (.for_ [4] false (.seq (.call "phases_of" sp_phases_of (.cons (.var 3) .nil))) (.cons (.dput (.var 2) (.call "led" sp_led (.cons (.var 3) (.cons (.var 4) .nil))) (.cst (.bl true))) .nil)) .nil)) (.cons (.ret (.blt "mtsorted" (.cons (.comp false 1 false [1] (.var 0) (.seq (.frz (.var 2))) (.cons (.cmp .NotIn (.var 0) (.var 1)) .nil)) .nil))) .nil)))
theorem Vu {μ:Mem} {n:Nat} {c:Cell} (h:μ[n]? = some c):n < μ.length:=by
 rcases Nat.lt_or_ge n μ.length with q | q
 ·exact q
 ·rw [List.getElem?_eq_none q] at h; cases h
theorem Wh {μ ν:Mem} {n:Nat} {d:Cell} (h:μ[n]? = some d):(μ ++ ν)[n]? = some d:=by rw [List.getElem?_append_left (Vu h)]; exact h
theorem ok_ne {l:Ly} (h:Ok4 l):l≠[]:=by rintro rfl; rcases h.1 with q | q <;> simp at q
theorem k_next_layer:Keeps n_next_layer i_next_layer sp_next_layer:=by
 rintro ds μ Q ⟨a,b,L,sn,vs,rfl,ha,hb,hok,hB,q⟩
 simp only [i_next_layer,n_next_layer,Yd,topZ,wSs,wS,wE,wEs,wI,List.map_cons,List.map_nil,List.length_cons,List.length_nil,List.cons_append,List.nil_append,List.getElem?_cons_zero,List.getElem?_cons_succ,List.replicate,List.set_cons_succ,List.set_cons_zero,if_true,wSeq,Wh ha]
 refine Ze lvD L (fun pre ρ μ'=>∃ is vs ν x y,ρ=[some (.loc a),some (.loc b),some (.loc μ.length),x,y]∧μ'=μ ++ .dtc (is.map keyI) vs :: ν∧is.Nodup∧∀ m,m∈is↔∃ o∈pre,Suc o m) ?_ ?_ _ _ ⟨[],[],[],none,none,rfl,rfl,by simp,by simp⟩
 ·rintro pre o post e ρ μ1 N hN ⟨is,vs1,ν,x,y,rfl,rfl,nd,hm⟩
  refine ⟨Wh ha,?_⟩
  have hoL:o∈L:=by rw [e]; simp
  have hsub:∀ o'∈pre,o'∈L:=fun o' ho'=>by rw [e]; simp [ho']
  simp only [Yg,List.set_cons_succ,List.set_cons_zero,List.getElem?_cons_zero,List.getElem?_cons_succ]
  refine ⟨o,rfl,hok o hoL,fun P ν' hP hPl=>?_⟩
  refine Ze phP P (fun ps ρ μ'=>∃ is vs ν y,ρ=[some (.loc a),some (.loc b),some (.loc μ.length),some (lvD o),y]∧μ'=μ ++ .dtc (is.map keyI) vs :: ν∧is.Nodup∧∀ m,m∈is↔(∃ o∈pre,Suc o m)∨∃ p∈ps,m=ledF o p.1 p.2.1 p.2.2) ?_ ?_ _ _ ⟨is,vs1,ν ++ ν',_,rfl,by simp,nd,by simpa using hm⟩
  ·rintro ps p post2 e2 ρ μ2 N2 hN2 ⟨is,vs2,ν,y,rfl,rfl,nd,hm⟩
   refine ⟨trivial,?_⟩
   have hp:isPh o p.1 p.2.1 p.2.2:=(hP p).mp (by rw [e2]; simp)
   have hps:∀ p∈ps,isPh o p.1 p.2.1 p.2.2:=fun p hp=>(hP p).mp (by rw [e2]; simp [hp])
   simp only [Yg,List.set_cons_succ,List.set_cons_zero,List.getElem?_cons_zero,List.getElem?_cons_succ,phP]
   refine ⟨o,_,_,_,rfl,hp,fun c=>?_⟩
   have hl:is.length < 64:=hB is nd fun m hmm=>by
    rcases (hm m).mp hmm with ⟨o',ho',hs⟩ | ⟨p,hp,rfl⟩
    ·exact ⟨o',hsub o' ho',hs⟩
    ·exact ⟨o,hoL,_,_,_,hps p hp,rfl⟩
   refine Van (is:=is) (vs:=vs2) (Wh Vb) (by simp only [lim]; omega) fun vs'=>?_
   refine hN2 _ _ ⟨insK is (ledF o p.1 p.2.1 p.2.2),vs',ν ++ [c],_,rfl,?_,insK_nd nd,fun m=>?_⟩
   ·rw [List.append_assoc,List.cons_append,Xq]
   ·rw [X6,hm]
    simp only [List.mem_append,List.mem_singleton]
    constructor
    ·rintro ((h | ⟨p',h1,h2⟩) | h)
     ·exact .inl h
     ·exact .inr ⟨p',.inl h1,h2⟩
     ·exact .inr ⟨p,.inr rfl,h⟩
    ·rintro (h | ⟨p',h1 | rfl,h2⟩)
     ·exact .inl (.inl h)
     ·exact .inl (.inr ⟨p',h1,h2⟩)
     ·exact .inr h2
  ·rintro ρ μ2 ⟨is,vs2,ν,y,rfl,rfl,nd,hm⟩
   refine ⟨trivial,hN _ _ ⟨is,vs2,ν,_,_,rfl,rfl,nd,fun m=>?_⟩⟩
   rw [hm]
   simp only [List.mem_append,List.mem_singleton]
   constructor
   ·rintro (⟨o',h1,h2⟩ | ⟨p,h1,rfl⟩)
    ·exact ⟨o',.inl h1,h2⟩
    ·exact ⟨o,.inr rfl,_,_,_,(hP p).mp h1,rfl⟩
   ·rintro ⟨o',h1 | rfl,h2⟩
    ·exact .inl ⟨o',h1,h2⟩
    ·obtain ⟨t,S,x,h3,rfl⟩:=h2
     exact .inr ⟨(t,S,x),(hP (t,S,x)).mpr h3,rfl⟩
 ·rintro ρ μ1 ⟨is,vs1,ν,x,y,rfl,rfl,nd,hm⟩
  refine ⟨Wh ha,?_⟩
  simp only [List.getElem?_cons_zero,List.getElem?_cons_succ,wFrz,Vb,Option.join_some]
  intro o
  rw [Xq]
  simp only [Vb]
  refine ⟨is,rfl,?_⟩
  refine Vf lvD (fun m=>!decide (m∈sn)) lvD Vb _ _ ?_ ?_
  ·intro m hmm Y N z
   simp only [bindC,wTs,wT,wE,List.getElem?_cons_zero,List.getElem?_cons_succ,List.cons_append,List.nil_append]
   refine in_ly (Wh hb) ?_
   simp only [wBl]
   exact z
  ·have nd2:(is.filter fun m=>!decide (m∈sn)).Nodup:=List.Pairwise.filter _ nd
   simp only [List.nil_append,newL,wBlt]
   have hB2:=hB _ nd2 fun m h=>(hm m).mp (List.mem_filter.mp h).1
   refine ⟨is.filter fun m=>!decide (m∈sn),.inl rfl,hB2,fun m h=>?_,fun r' hp hu=>?_⟩
   ·obtain ⟨o',ho',hs⟩:=(hm m).mp (List.mem_filter.mp h).1
    exact ok_ne (hs.ok (hok o' ho')).1
   ·simp only [newL]
    refine q r' (.fdt o (is.map keyI) vs1 :: ν) ⟨hu,hp.nodup_iff.mpr nd2,fun m=>?_⟩ (by rw [hp.length_eq]; exact hB2)
    rw [hp.mem_iff,List.mem_filter,hm]
    simp
end DW.LYR
end
section
set_option autoImplicit false
namespace DW.LYR
open PySem DW DW.K03
theorem Rows.inv {l:Ly} {R:List (List Ly)} {L M:List Ly} (h:Rows l (R ++ [L] ++ [M])):Rows l (R ++ [L])∧NL L (Zt (R ++ [L])) M:=by
 generalize e:R ++ [L] ++ [M]=X at h
 cases h with
 | one=>have:=congrArg List.length e; simp at this
 | more h1 h2 =>
  obtain ⟨e1,rfl⟩:=Wi e
  obtain ⟨rfl,rfl⟩:=Wi e1
  exact ⟨h1,h2⟩
theorem Rows.one_inv {l:Ly} {L:List Ly} (h:Rows l [L]):L=[l]:=by
 generalize e:[L]=X at h
 cases h with
 | one=>simpa using e
 | more h1 h2=>have:=congrArg List.length e; simp at this
theorem Zy {R:List (List Ly)} {L:List Ly} {m:Ly}:Zt (R ++ [L]) m↔Zt R m∨m∈L:=by
 unfold Zt
 simp only [List.mem_append,List.mem_singleton]
 constructor
 ·rintro ⟨r,h | rfl,hm⟩
  ·exact .inl ⟨r,h,hm⟩
  ·exact .inr hm
 ·rintro (⟨r,h,hm⟩ | hm)
  ·exact ⟨r,.inl h,hm⟩
  ·exact ⟨L,.inr rfl,hm⟩
noncomputable def AtV (ν:Mem):List Nat→List (List Ly)→Prop
 | [],[]=>True
 | j :: js,r :: R=>ν[j]? = some (.lst (r.map lvD))∧AtV ν js R
 | _,_=>False
theorem AtV.app {ν ν':Mem}:∀ {js:List Nat} {R:List (List Ly)},AtV ν js R→AtV (ν ++ ν') js R
 | [],[],_=>trivial
 | j :: js,r :: R,h=>⟨Wh h.1,h.2.app⟩
theorem AtV.snoc {ν:Mem} {j:Nat} {r:List Ly} (h2:ν[j]? = some (.lst (r.map lvD))):∀ {js:List Nat} {R:List (List Ly)},AtV ν js R→AtV ν (js ++ [j]) (R ++ [r])
 | [],[],_=>⟨h2,trivial⟩
 | j :: js,r :: R,h=>⟨h.1,h.2.snoc h2⟩
theorem AtV.len {ν:Mem}:∀ {js:List Nat} {R:List (List Ly)},AtV ν js R→js.length=R.length
 | [],[],_=>rfl
 | j :: js,r :: R,h=>by simp [h.2.len]
theorem Xa5 {μ ν:Mem} {A B:Cell} {j:Nat}:(μ ++ A :: B :: ν)[μ.length + 2 + j]? = ν[j]?:=by
 rw [List.getElem?_append_right (by omega),show μ.length + 2 + j - μ.length=j + 2 by omega]
 rfl
theorem W8 {μ ν:Mem} {A B:Cell}:(μ ++ A :: B :: ν)[μ.length + 1]? = some B:=by
 rw [List.getElem?_append_right (by omega),show μ.length + 1 - μ.length=1 by omega]
 rfl
theorem Ya5 {μ ν:Mem} {A B C:Cell}:(μ ++ A :: B :: ν).set (μ.length + 1) C=μ ++ A :: C :: ν:=by
 rw [List.set_append_right _ _ (by omega),show μ.length + 1 - μ.length=1 by omega]
 rfl
noncomputable def locs (k:Nat) (js:List Nat):List D:=js.map fun j=>D.loc (k + 2 + j)
def sp_layers:DSp:=fun ds μ Q=>∃ l:Ly,ds=[lvD l]∧Ok4 l∧∀ (R:List (List Ly)) (js:List Nat) (B:Cell) (ν:Mem),Done l R→R.length≤10→(∀ r∈R,r.length < 64)→AtV ν js R→js.Nodup→Q (.loc μ.length) (μ ++ .lst (locs μ.length js) :: B :: ν)
def n_layers:List Str:=["layout","told","seen","layer","one"]
noncomputable def i_layers:Ss:=(.cons (.set 1 (.lst true .nil)) (.cons (.set 2 (.dnew true)) (.cons (.set 3 (.lst true (.cons (.var 0) .nil))) (.cons (.whl (.var 3) (.cons (.exp (.meth "append" (.var 1) (.cons (.var 3) .nil))) (.cons (.ite (.call "singles" sp_singles (.cons (.var 3) .nil)) (.cons .brk .nil) .nil) (.cons (.for_ [4] false (.seq (.var 3)) (.cons (.dput (.var 2) (.var 4) (.cst (.bl true))) .nil)) (.cons (.set 3 (.call "next_layer" sp_next_layer (.cons (.var 3) (.cons (.var 2) .nil)))) .nil))))) (.cons (.ret (.var 1)) .nil)))))
theorem Rows.len {l:Ly} (hl:Ok4 l) {R:List (List Ly)} {L:List Ly} (h:Rows l (R ++ [L])) (hne:L≠[]):R.length≤9:=by
 cases L with
 | nil=>exact absurd rfl hne
 | cons m L=>exact (h.last R (m :: L) rfl m (by simp)).le hl
theorem Rows.ok {l:Ly} (hl:Ok4 l) {R:List (List Ly)} {L:List Ly} (h:Rows l (R ++ [L])):∀ o∈L,Ok4 o:=fun o ho=>((h.last R L rfl o ho).ok hl).1
theorem Rows.bnd {l:Ly} (hl:Ok4 l) {R:List (List Ly)} {L:List Ly} (h:Rows l (R ++ [L])):∀ M:List Ly,M.Nodup→(∀ m∈M,∃ o∈L,Suc o m)→M.length < 64:=fun M nd hM =>
 lay_bound hl (k:=R.length + 1) nd fun m hm=>by
  obtain ⟨o,ho,hs⟩:=hM m hm
  exact .succ (h.last R L rfl o ho) hs
structure Lp (l:Ly) (R:List (List Ly)) (L:List Ly):Prop where
 rows:Rows l (R ++ [L])
 good:∀ row∈R,row≠[]∧¬ Sg row∧row.length < 64
 l64:L.length < 64
theorem Lp.len {l:Ly} (hl:Ok4 l) {R:List (List Ly)} {L:List Ly} (h:Lp l R L):R.length≤10:=by
 rcases List.eq_nil_or_concat R with rfl | ⟨R0,L0,e⟩
 ·simp
 ·have e:R=R0 ++ [L0]:=by simpa using e
  subst e
  have:=h.rows.inv.1.len hl (h.good L0 (by simp)).1
  simp; omega
theorem Lp.done {l:Ly} {R:List (List Ly)} (h:Lp l R []):Done l R∧∀ r∈R,r.length < 64:=by
 rcases List.eq_nil_or_concat R with rfl | ⟨R0,L0,e⟩
 ·have:=h.rows.one_inv; simp at this
 ·have e:R=R0 ++ [L0]:=by simpa using e
  subst e
  obtain ⟨h1,h2⟩:=h.rows.inv
  refine ⟨⟨h1,fun r hr=>(h.good r hr).1,fun R1 L1 e r hr=>?_,fun R1 L1 e=>?_⟩,fun r hr=>(h.good r hr).2.2⟩
  ·obtain ⟨rfl,rfl⟩:=Wi e
   exact (h.good r (by simp [hr])).2.1
  ·obtain ⟨rfl,rfl⟩:=Wi e
   exact .inr h2
theorem Lp.sg {l:Ly} {R:List (List Ly)} {L:List Ly} (h:Lp l R L) (hs:Sg L):Done l (R ++ [L])∧∀ r∈R ++ [L],r.length < 64:=by
 have hne:L≠[]:=by rintro rfl; obtain ⟨m,hm,_⟩:=hs; simp at hm
 refine ⟨⟨h.rows,fun r hr=>?_,fun R1 L1 e r hr=>?_,fun R1 L1 e=>?_⟩,fun r hr=>?_⟩
 ·rcases List.mem_append.mp hr with q | q
  ·exact (h.good r q).1
  ·have:r=L:=by simpa using q
   rw [this]; exact hne
 ·obtain ⟨rfl,rfl⟩:=Wi e
  exact (h.good r hr).2.1
 ·obtain ⟨rfl,rfl⟩:=Wi e
  exact .inl hs
 ·rcases List.mem_append.mp hr with q | q
  ·exact (h.good r q).2.2
  ·have:r=L:=by simpa using q
   rw [this]; exact h.l64
theorem Lp.next {l:Ly} {R:List (List Ly)} {L M:List Ly} (h:Lp l R L) (hne:L≠[]) (hs:¬ Sg L) (hn:NL L (Zt (R ++ [L])) M) (hM:M.length < 64):Lp l (R ++ [L]) M:=by
 refine ⟨.more h.rows hn,fun r hr=>?_,hM⟩
 rcases List.mem_append.mp hr with q | q
 ·exact h.good r q
 ·have:r=L:=by simpa using q
  rw [this]; exact ⟨hne,hs,h.l64⟩
theorem Lp.zero (l:Ly):Lp l [] [l]:=⟨.one,by simp,by simp⟩
theorem k_layers:Keeps n_layers i_layers sp_layers:=by
 rintro ds μ Q ⟨l,rfl,hl,q⟩
 simp only [i_layers,n_layers,Yd,topZ,wSs,wS,wE,wEs,newL,List.map_cons,List.map_nil,List.length_cons,List.length_nil,List.cons_append,List.nil_append,List.getElem?_cons_zero,List.getElem?_cons_succ,List.replicate,List.set_cons_succ,List.set_cons_zero,if_true,List.append_assoc,List.length_append]
 refine ⟨by decide,by decide,?_⟩
 refine ⟨fun m ρ μ'=>∃ (R:List (List Ly)) (L sn:List Ly) (js:List Nat) (vs:List D) (ν:Mem) (j:Nat) (x:Option D),m + R.length=12∧Lp l R L∧ρ=[some (lvD l),some (.loc μ.length),some (.loc (μ.length + 1)),some (.loc (μ.length + 2 + j)),x] ∧
   μ'=μ ++ .lst (locs μ.length js) :: .dtc (sn.map keyI) vs :: ν∧AtV ν js R∧js.Nodup∧ν[j]? = some (.lst (L.map lvD))∧j ∉ js∧(∀ m,m∈sn↔Zt R m)∧sn.length≤64 * R.length,⟨12,[],[l],[],[],[],[.lst [lvD l]],0,none,rfl,Lp.zero l,by simp,by simp [locs],trivial,by simp,rfl,by simp,by simp [Zt],by simp⟩,?_⟩
 rintro m ρ μ1 ⟨R,L,sn,js,vs,ν,j,x,hm,lp,rfl,rfl,hat,hnd,hj,hjs,hsn,hsl⟩
 have hR:=lp.len hl
 have hjl:js.length=R.length:=hat.len
 have hcur:∀ A B,(μ ++ A :: B :: ν)[μ.length + 2 + j]? = some (.lst (L.map lvD)):=fun A B=>by rw [Xa5]; exact hj
 simp only [wT,List.getElem?_cons_zero,List.getElem?_cons_succ,wTru,truth,lenOf,Yb,hcur,Option.map_some,List.length_map]
 by_cases hne:L=[]
 ·subst hne
  simp only [List.length_nil,bne_self_eq_false,Bool.false_eq_true,if_false]
  obtain ⟨h1,h2⟩:=lp.done
  exact q R js _ ν h1 hR h2 hat hnd
 ·have hlen:(L.length != 0)=true:=by cases L with
   | nil=>exact absurd rfl hne
   | cons a r=>rfl
  simp only [hlen,if_true,wSs,wS,wE,wEs,List.getElem?_cons_zero,List.getElem?_cons_succ,isCell,Vb,Zu,Yl,wT]
  refine ⟨trivial,by simp [locs,lim]; omega,?_⟩
  rw [Xq]
  have eL:locs μ.length js ++ [D.loc (μ.length + 2 + j)]=locs μ.length (js ++ [j]):=by simp [locs]
  rw [eL]
  refine ⟨μ.length + 2 + j,L,rfl,hcur _ _,?_⟩
  simp only [wTru,truth,lenOf,Yb,Option.map_some,List.length_map]
  by_cases hs:Sg L
  ·have hlen2:((sgl L).length != 0)=true:=by
    cases e:sgl L with
    | nil=>exact absurd e (sgl_ne.mpr hs)
    | cons a r=>rfl
   simp only [hlen2,if_true]
   obtain ⟨h1,h2⟩:=lp.sg hs
   exact q (R ++ [L]) (js ++ [j]) _ ν h1 (by have:=lp.rows.len hl hne; simp; omega) h2 (hat.snoc hj) (by rw [List.nodup_append]; exact ⟨hnd,by simp,fun a ha b hb=>by
    have:b=j:=by simpa using hb
    subst this; exact fun e=>hjs (e ▸ ha)⟩)
  ·have hlen2:((sgl L).length != 0)=false:=by
    cases e:sgl L with
    | nil=>rfl
    | cons a r=>exact absurd (sgl_ne.mp (by rw [e]; simp)) hs
   simp only [hlen2,Bool.false_eq_true,if_false,wI,wSeq,wE,List.getElem?_cons_zero,List.getElem?_cons_succ,hcur]
   refine Ze lvD L (fun pre ρ μ'=>∃ (sn:List Ly) (vs:List D) (x:Option D),ρ=[some (lvD l),some (.loc μ.length),some (.loc (μ.length + 1)),some (.loc (μ.length + 2 + j)),x] ∧
    μ'=μ ++ .lst (locs μ.length (js ++ [j])) :: .dtc (sn.map keyI) vs :: ν∧(∀ m,m∈sn↔Zt R m∨m∈pre)∧sn.length≤64 * R.length + pre.length) ?_ ?_ _ _ ⟨sn,vs,x,rfl,rfl,by simpa using hsn,by simpa using hsl⟩
   ·rintro pre o post e ρ μ1 N hN ⟨sn,vs,x,rfl,rfl,hsn,hsl⟩
    refine ⟨hcur _ _,?_⟩
    have hpl:pre.length≤64:=by have:=lp.l64; rw [e] at this; simp at this; omega
    simp only [Yg,List.set_cons_succ,List.set_cons_zero,List.getElem?_cons_zero,List.getElem?_cons_succ]
    refine Van W8 (by simp only [lim]; omega) fun vs'=>?_
    rw [Ya5]
    refine hN _ _ ⟨insK sn o,vs',_,rfl,rfl,fun m=>?_,?_⟩
    ·rw [X6,hsn]; simp [or_assoc]
    ·have:=insK_len (is:=sn) (m:=o); simp; omega
   ·rintro ρ μ1 ⟨sn,vs,x,rfl,rfl,hsn,hsl⟩
    refine ⟨hcur _ _,?_⟩
    simp only [List.getElem?_cons_zero,List.getElem?_cons_succ,List.set_cons_succ,List.set_cons_zero]
    refine ⟨μ.length + 2 + j,μ.length + 1,L,sn,vs,rfl,hcur _ _,W8,lp.rows.ok hl,lp.rows.bnd hl,fun M ν' hn hM=>?_⟩
    have hn':NL L (Zt (R ++ [L])) M:=⟨hn.up,hn.nd,fun m=>by rw [hn.mem,hsn,Zy]⟩
    have jl:=Vu hj
    refine ⟨m - 1,by omega,R ++ [L],M,sn,js ++ [j],vs,ν ++ ν' ++ [.lst (M.map lvD)],(ν ++ ν').length,x,by simp; omega,lp.next hne hs hn' hM,?_,by simp,(((hat.snoc hj).app).app),?_,by simp,?_,fun m=>by rw [hsn,Zy],?_⟩
    ·simp; omega
    ·rw [List.nodup_append]; exact ⟨hnd,by simp,fun a ha b hb=>by
      have:b=j:=by simpa using hb
      subst this; exact fun e=>hjs (e ▸ ha)⟩
    ·intro z
     have hlt:∀ {js:List Nat} {R:List (List Ly)},AtV ν js R→∀ j∈js,j < ν.length:=by
      intro js
      induction js with
      | nil=>intro R _ j hj; simp at hj
      | cons a js ih =>
       intro R h j hj
       cases R with
       | nil=>exact h.elim
       | cons r R =>
        rcases List.mem_cons.mp hj with rfl | hj
        ·exact Vu h.1
        ·exact ih h.2 j hj
     rcases List.mem_append.mp z with z | z
     ·have:=hlt hat _ z; simp at this; omega
     ·have:(ν ++ ν').length=j:=by simpa using z
      simp at this; omega
    ·have:=lp.l64; simp; omega
end DW.LYR
end
section
set_option autoImplicit false
namespace DW.LYR
open PySem DW DW.K03
def spL_layers:DSp:=fun ds μ Q=>∃ l:Ly,ds=[lvD l]∧Ok4 l∧∀ (R:List (List Ly)) (ν:Mem),Done l R→R.length≤10→(∀ r∈R,r.length < 64)→Q (.lst (R.map rowD)) (μ ++ ν)
def nL_layers:List Str:=["layout","rows","seen","more","one","phase","other"]
noncomputable def tlW:Ss:=(.cons (.set 3 (.dnew true)) (.cons (.for_ [4] false (.seq (.idx (.var 1) (.neg (.cst (.int 1))))) (.cons (.for_ [5] false (.seq (.call "_law_phases" spL_phases (.cons (.var 4) .nil))) (.cons (.set 6 (.call "_law_led" spL_led (.cons (.var 4) (.cons (.var 5) .nil)))) (.cons (.ite (.cmp .NotIn (.var 6) (.var 2)) (.cons (.dput (.var 3) (.var 6) (.cst (.bl true))) .nil) .nil) .nil))) .nil)) (.cons (.for_ [6] false (.seq (.frz (.var 3))) (.cons (.dput (.var 2) (.var 6) (.cst (.bl true))) .nil)) (.cons (.exp (.meth "append" (.var 1) (.cons (.blt "tsorted" (.cons (.var 3) .nil)) .nil))) .nil))))
noncomputable def iL_layers:Ss:=(.cons (.set 1 (.lst true (.cons (.lst false (.cons (.var 0) .nil)) .nil))) (.cons (.set 2 (.bltD "{t}" (.var 0) (.cst (.bl true)))) (.cons (.whl (.and (.cmp .NotEq (.idx (.var 1) (.neg (.cst (.int 1)))) (.lst false .nil)) (.cmp .Eq (.comp false 1 false [] (.var 0) (.seq (.idx (.var 1) (.neg (.cst (.int 1))))) (.cons (.cmp .Eq (.blt "sum" (.cons (.var 0) .nil)) (.cst (.int 1))) .nil)) (.lst false .nil))) tlW) (.cons (.ret (.comp false 1 false [] (.var 0) (.seq (.var 1)) (.cons (.cmp .NotEq (.var 0) (.lst false .nil)) .nil))) .nil))))
theorem flat_lv (n:Nat) (l:Ly):flat (n + 1) (lvD l)=true:=by
 show flats n (l.map D.int)=true
 induction l with
 | nil=>rfl
 | cons i l ih=>simp only [List.map_cons,flats,flat,ih]; rfl
theorem flats_lv (n:Nat):∀ r:List Ly,flats (n + 1) (r.map lvD)=true
 | []=>rfl
 | a :: r=>by simp only [List.map_cons,flats,flat_lv,flats_lv n r]; rfl
theorem W6 (n:Nat) (r:List Ly):flat (n + 2) (rowD r)=true:=flats_lv n r
theorem Xk (n:Nat) (R:List (List Ly)):flat (n + 3) (.lst (R.map rowD))=true:=by
 show flats (n + 2) (R.map rowD)=true
 induction R with
 | nil=>rfl
 | cons r R ih=>simp only [List.map_cons,flats,W6,ih]; rfl
theorem eq_nil (ds:List D):eqD (.lst ds) (.lst [])=ds.isEmpty:=by
 cases ds with
 | nil=>rfl
 | cons d ds=>rfl
theorem last_ix {α:Type} (xs:List α) (x:α):(ixD (xs ++ [x]).length (-1)).bind ((xs ++ [x])[·]?)=some x:=by
 have:ixD (xs ++ [x]).length (-1)=some xs.length:=by
  unfold ixD; rw [if_neg (by decide),if_pos (by simp; omega)]; simp; omega
 rw [this]; simp
theorem Wam {μ ν:Mem} {R:List (List Ly)} {L:List Ly} {Q:QD} {n:Nat} (h:μ[n]? = some (.lst ((R ++ [L]).map rowD))) (q:Q (rowD L) μ):wIdx (.loc n) (.int (-1)) μ Q:=by
 have:=last_ix (R.map rowD) (rowD L)
 simp only [wIdx,Yb,h,List.map_append,List.map_cons,List.map_nil,this]
 exact q
theorem off3 {μ ν ν':Mem} {A B C:Cell}:(μ ++ A :: B :: (ν ++ C :: ν'))[μ.length + 2 + ν.length]? = some C:=by
 rw [Xa5]; exact Vb
theorem Wbf {μ ν ν':Mem} {A B C C':Cell}:(μ ++ A :: B :: (ν ++ C :: ν')).set (μ.length + 2 + ν.length) C'=μ ++ A :: B :: (ν ++ C' :: ν'):=by
 rw [List.set_append_right _ _ (by omega),show μ.length + 2 + ν.length - μ.length=ν.length + 2 by omega]
 simp
noncomputable def WL (l:Ly) (μ:Mem) (m:Nat) (ρ:Rho) (μ':Mem):Prop:=∃ (R:List (List Ly)) (L sn:List Ly) (vs:List D) (ν:Mem) (x3 x4 x5 x6:Option D),m + R.length=12∧Lp l R L ∧
 ρ=[some (lvD l),some (.loc μ.length),some (.loc (μ.length + 1)),x3,x4,x5,x6]∧μ'=μ ++ .lst ((R ++ [L]).map rowD) :: .dtc (sn.map keyI) vs :: ν∧(∀ m,m∈sn↔Zt (R ++ [L]) m)∧sn.length≤64 * R.length + 64
theorem tlW_ok {l:Ly} {μ:Mem} (hl:Ok4 l) {m:Nat} {Z:DEnds} (hZ:∀ m' ρ μ',m' < m→WL l μ m' ρ μ'→Z.nx ρ μ') {R:List (List Ly)} {L sn:List Ly} {vs:List D} {ν:Mem} {x3 x4 x5 x6:Option D} (hm:m + R.length=12) (lp:Lp l R L) (hne:L≠[]) (hs:¬ Sg L)
  (hsn:∀ m,m∈sn↔Zt (R ++ [L]) m) (hsl:sn.length≤64 * R.length + 64) :
  wSs tlW Z [some (lvD l),some (.loc μ.length),some (.loc (μ.length + 1)),x3,x4,x5,x6] (μ ++ .lst ((R ++ [L]).map rowD) :: .dtc (sn.map keyI) vs :: ν):=by
 have hR:=lp.len hl
 have hok:=lp.rows.ok hl
 have hB:=lp.rows.bnd hl
 simp only [tlW,wSs,wS,wE,wEs,wI,List.set_cons_succ,List.set_cons_zero,List.getElem?_cons_zero,List.getElem?_cons_succ,if_true,List.append_assoc,List.cons_append,List.length_append,List.length_cons]
 refine Wam (ν:=[]) (R:=R) (L:=L) (by exact Vb) ?_
 have em:μ.length + (ν.length + 1 + 1)=μ.length + 2 + ν.length:=by omega
 simp only [rowD,wSeq,em]
 refine Ze lvD L (fun pre ρ μ'=>∃ is vs' ν' x4 x5 x6,ρ=[some (lvD l),some (.loc μ.length),some (.loc (μ.length + 1)),some (.loc (μ.length + 2 + ν.length)),x4,x5,x6]∧μ'=μ ++ .lst ((R ++ [L]).map rowD) :: .dtc (sn.map keyI) vs :: (ν ++ .dtc (is.map keyI) vs' :: ν')∧is.Nodup∧∀ m,m∈is↔(∃ o∈pre,Suc o m)∧m ∉ sn) ?_ ?_ _ _ ⟨[],[],[],x4,x5,x6,rfl,rfl,by simp,by simp⟩
 ·rintro pre o post e ρ μ1 N hN ⟨is,vs',ν',x4,x5,x6,rfl,rfl,nd,hmm⟩
  refine ⟨trivial,?_⟩
  have hoL:o∈L:=by rw [e]; simp
  have hsub:∀ o'∈pre,o'∈L:=fun o' ho'=>by rw [e]; simp [ho']
  simp only [Yg,List.set_cons_succ,List.set_cons_zero,List.getElem?_cons_zero,List.getElem?_cons_succ]
  refine ⟨o,rfl,hok o hoL,fun P ν2 hP hPl=>?_⟩
  refine Ze phP P (fun ps ρ μ'=>∃ is vs' ν' x5 x6,ρ=[some (lvD l),some (.loc μ.length),some (.loc (μ.length + 1)),some (.loc (μ.length + 2 + ν.length)),some (lvD o),x5,x6]∧μ'=μ ++ .lst ((R ++ [L]).map rowD) :: .dtc (sn.map keyI) vs :: (ν ++ .dtc (is.map keyI) vs' :: ν')∧is.Nodup∧∀ m,m∈is↔((∃ o∈pre,Suc o m)∨∃ p∈ps,m=ledF o p.1 p.2.1 p.2.2)∧m ∉ sn) ?_ ?_ _ _ ⟨is,vs',ν' ++ ν2,_,_,rfl,by simp,nd,by simpa using hmm⟩
  ·rintro ps p post2 e2 ρ μ2 N2 hN2 ⟨is,vs2,ν',x5,x6,rfl,rfl,nd,hmm⟩
   refine ⟨trivial,?_⟩
   have hp:isPh o p.1 p.2.1 p.2.2:=(hP p).mp (by rw [e2]; simp)
   have hps:∀ p∈ps,isPh o p.1 p.2.1 p.2.2:=fun p hp=>(hP p).mp (by rw [e2]; simp [hp])
   have hx9:p.2.2≤9:=by
    have h1:=(ph_iff (l:=o) (p:=p)).mpr hp
    have:=Zal (hok o hoL) (w:=p.2.1)
    omega
   simp only [Yg,List.set_cons_succ,List.set_cons_zero,List.getElem?_cons_zero,List.getElem?_cons_succ,phP]
   refine ⟨o,_,_,_,rfl,hp,by have:=ok_len (hok o hoL); omega,by have:=hp.2.2.1; omega,by omega,fun c=>?_⟩
   have hl:is.length < 64:=hB is nd fun m hmmm=>by
    rcases ((hmm m).mp hmmm).1 with ⟨o',ho',hs⟩ | ⟨p,hp,rfl⟩
    ·exact ⟨o',hsub o' ho',hs⟩
    ·exact ⟨o,hoL,_,_,_,hps p hp,rfl⟩
   simp only [wT,wE,List.set_cons_succ,List.set_cons_zero,List.getElem?_cons_zero,List.getElem?_cons_succ]
   refine in_ly (is:=sn) (vs:=vs) (Wh W8) ?_
   simp only [wBl]
   by_cases hin:ledF o p.1 p.2.1 p.2.2∈sn
   ·simp only [hin,decide_true,Bool.not_true,Bool.false_eq_true,if_false,wSs]
    refine hN2 _ _ ⟨is,vs2,ν' ++ [c],_,_,rfl,by simp,nd,fun m=>?_⟩
    rw [hmm]
    simp only [List.mem_append,List.mem_singleton]
    constructor
    ·rintro ⟨h | ⟨p',h1,h2⟩,h3⟩
     ·exact ⟨.inl h,h3⟩
     ·exact ⟨.inr ⟨p',.inl h1,h2⟩,h3⟩
    ·rintro ⟨h | ⟨p',h1 | rfl,h2⟩,h3⟩
     ·exact ⟨.inl h,h3⟩
     ·exact ⟨.inr ⟨p',h1,h2⟩,h3⟩
     ·exact absurd (h2 ▸ hin) h3
   ·simp only [hin,decide_false,Bool.not_false,if_true,wSs,wS,wE,List.getElem?_cons_zero,List.getElem?_cons_succ]
    refine Van (is:=is) (vs:=vs2) (Wh off3) (by simp only [lim]; omega) fun vs'=>?_
    refine hN2 _ _ ⟨insK is (ledF o p.1 p.2.1 p.2.2),vs',ν' ++ [c],_,_,rfl,?_,insK_nd nd,fun m=>?_⟩
    ·have:(μ ++ Cell.lst ((R ++ [L]).map rowD) :: Cell.dtc (sn.map keyI) vs :: (ν ++ Cell.dtc (is.map keyI) vs2 :: ν')) ++ [c]=μ ++ Cell.lst ((R ++ [L]).map rowD) :: Cell.dtc (sn.map keyI) vs :: (ν ++ Cell.dtc (is.map keyI) vs2 :: (ν' ++ [c])):=by simp
     rw [this,Wbf]
    ·rw [X6,hmm]
     simp only [List.mem_append,List.mem_singleton]
     constructor
     ·rintro (⟨h | ⟨p',h1,h2⟩,h3⟩ | h)
      ·exact ⟨.inl h,h3⟩
      ·exact ⟨.inr ⟨p',.inl h1,h2⟩,h3⟩
      ·exact ⟨.inr ⟨p,.inr rfl,h⟩,h ▸ hin⟩
     ·rintro ⟨h | ⟨p',h1 | rfl,h2⟩,h3⟩
      ·exact .inl ⟨.inl h,h3⟩
      ·exact .inl ⟨.inr ⟨p',h1,h2⟩,h3⟩
      ·exact .inr h2
  ·rintro ρ μ2 ⟨is,vs2,ν',x5,x6,rfl,rfl,nd,hmm⟩
   refine ⟨trivial,hN _ _ ⟨is,vs2,ν',_,_,_,rfl,rfl,nd,fun m=>?_⟩⟩
   rw [hmm]
   simp only [List.mem_append,List.mem_singleton]
   constructor
   ·rintro ⟨⟨o',h1,h2⟩ | ⟨p,h1,rfl⟩,h3⟩
    ·exact ⟨⟨o',.inl h1,h2⟩,h3⟩
    ·exact ⟨⟨o,.inr rfl,_,_,_,(hP p).mp h1,rfl⟩,h3⟩
   ·rintro ⟨⟨o',h1 | rfl,h2⟩,h3⟩
    ·exact ⟨.inl ⟨o',h1,h2⟩,h3⟩
    ·obtain ⟨t,S,x,h4,rfl⟩:=h2
     exact ⟨.inr ⟨(t,S,x),(hP (t,S,x)).mpr h4,rfl⟩,h3⟩
 ·rintro ρ μ1 ⟨is,vs',ν',x4,x5,x6,rfl,rfl,nd,hmm⟩
  refine ⟨trivial,?_⟩
  have hl64:is.length < 64:=hB is nd fun m h=>((hmm m).mp h).1
  simp only [List.getElem?_cons_zero,List.getElem?_cons_succ,wFrz,off3]
  intro ob
  rw [Wbf]
  simp only [off3]
  refine ⟨is,rfl,?_⟩
  refine Ze lvD is (fun pre ρ μ'=>∃ (sn':List Ly) (vs:List D) (x6:Option D),ρ=[some (lvD l),some (.loc μ.length),some (.loc (μ.length + 1)),some (.loc (μ.length + 2 + ν.length)),x4,x5,x6]∧μ'=μ ++ .lst ((R ++ [L]).map rowD) :: .dtc (sn'.map keyI) vs :: (ν ++ .fdt ob (is.map keyI) vs' :: ν')∧(∀ m,m∈sn'↔m∈sn∨m∈pre)∧sn'.length≤sn.length + pre.length) ?_ ?_ _ _ ⟨sn,vs,x6,rfl,rfl,by simp,by simp⟩
  ·rintro pre o post e ρ μ1 N hN ⟨sn',vs2,x6,rfl,rfl,h1,h2⟩
   refine ⟨off3,?_⟩
   have hpl:pre.length≤64:=by rw [e] at hl64; simp at hl64; omega
   simp only [Yg,List.set_cons_succ,List.set_cons_zero,List.getElem?_cons_zero,List.getElem?_cons_succ]
   refine Van W8 (by simp only [lim]; omega) fun vs'=>?_
   rw [Ya5]
   refine hN _ _ ⟨insK sn' o,vs',_,rfl,rfl,fun m=>?_,?_⟩
   ·rw [X6,h1]; simp [or_assoc]
   ·have:=insK_len (is:=sn') (m:=o); simp; omega
  ·rintro ρ μ1 ⟨sn',vs2,x6,rfl,rfl,h1,h2⟩
   refine ⟨off3,?_⟩
   simp only [List.getElem?_cons_zero,List.getElem?_cons_succ,isCell,Vb,wBlt,true_and]
   refine ⟨is,.inr ⟨_,ob,vs',rfl,off3⟩,hl64,fun m h=>?_,fun r' hp hu=>?_⟩
   ·obtain ⟨o',ho',hs⟩:=((hmm m).mp h).1
    exact ok_ne (hs.ok (hok o' ho')).1
   ·simp only [newL,Zu,Vb,Yl]
    refine ⟨by simp [lim]; omega,?_⟩
    rw [Xq]
    have hn:NL L (Zt (R ++ [L])) r':=⟨hu,hp.nodup_iff.mpr nd,fun m=>by rw [hp.mem_iff,hmm,hsn]⟩
    refine hZ (m - 1) _ _ (by omega) ⟨R ++ [L],r',sn',vs2,ν ++ .fdt ob (is.map keyI) vs' :: ν',_,_,_,_,by simp; omega,lp.next hne hs hn (by rw [hp.length_eq]; exact hl64),rfl,?_,fun m=>?_,?_⟩
    ·rw [List.map_append (l₁:=R ++ [L])]; rfl
    ·rw [h1,hsn,Zy (R:=R ++ [L]),hp.mem_iff]
    ·simp; omega
theorem kL_layers : Keeps nL_layers iL_layers spL_layers := by
  rintro ds μ Q ⟨l, rfl, hl, q⟩
  simp only [iL_layers, nL_layers, Yd, topZ, wSs, wS, wE, wEs, newL, List.map_cons, List.map_nil, List.length_cons, List.length_nil, List.cons_append, List.nil_append, List.getElem?_cons_zero, List.getElem?_cons_succ, List.replicate, List.set_cons_succ, List.set_cons_zero, List.append_assoc, List.length_append]
  refine ⟨by decide, by decide, ?_⟩
  have e1 : ("{t}" = "{}") = False := by decide
  simp only [e1, if_false, if_true, wBltD, wDdT, lvD, Z6, List.cons_append, List.nil_append, List.append_assoc]
  refine ⟨W8, ?_⟩
  rw [Ya5]
  refine ⟨WL l μ, ⟨12, [], [l], [l], _, [], _, _, _, _, rfl, Lp.zero l, rfl, rfl, fun m => by simp [Zt], by simp⟩, ?_⟩
  rintro m ρ μ1 ⟨R, L, sn, vs, ν, x3, x4, x5, x6, hm, lp, rfl, rfl, hsn, hsl⟩
  have hR := lp.len hl
  have fin : (L = [] ∨ Sg L) → wE (.comp false 1 false [] (.var 0) (.seq (.var 1)) (.cons (.cmp .NotEq (.var 0) (.lst false .nil)) .nil)) [some (lvD l), some (.loc μ.length), some (.loc (μ.length + 1)), x3, x4, x5, x6] (μ ++ .lst ((R ++ [L]).map rowD) :: .dtc (sn.map keyI) vs :: ν) Q := by
    intro hL
    simp only [wE, wI, wSeq, List.getElem?_cons_zero, List.getElem?_cons_succ, Vb, List.map_nil, newL]
    refine Vf rowD (fun r => !r.isEmpty) rowD Vb _ _ ?_ ?_
    · intro r hr Y N z
      simp only [bindC, wTs, wT, wE, wEs, newL, List.getElem?_cons_zero]
      refine ⟨by decide, Vaq (W6 58 r) rfl ?_⟩
      rw [rowD, eq_nil]
      simp only [wBl]
      have : (r.map lvD).isEmpty = r.isEmpty := by cases r <;> rfl
      rw [this]
      exact z
    · rw [List.nil_append]
      have hgood : ∀ r ∈ R, (!r.isEmpty) = true := fun r hr => by
        have := (lp.good r hr).1
        cases r with
        | nil => exact absurd rfl this
        | cons a r => rfl
      rw [List.filter_append, List.filter_eq_self.mpr hgood]
      by_cases hne : L = []
      · subst hne
        obtain ⟨h1, h2⟩ := lp.done
        have := q R (.lst ((R ++ [[]]).map rowD) :: .dtc (sn.map keyI) vs :: ν) h1 hR h2
        simpa using this
      · have hs : Sg L := by rcases hL with h | h
                             · exact absurd h hne
                             · exact h
        obtain ⟨h1, h2⟩ := lp.sg hs
        have := q (R ++ [L]) (.lst ((R ++ [L]).map rowD) :: .dtc (sn.map keyI) vs :: ν) h1 (by have := lp.rows.len hl hne; simp; omega) h2
        have hf : [L].filter (fun r => !r.isEmpty) = [L] := by
          cases L with
          | nil => exact absurd rfl hne
          | cons a r => rfl
        rw [hf]
        exact this
  simp only [wT, wE, wEs, newL, List.getElem?_cons_zero, List.getElem?_cons_succ]
  refine Wam (ν := []) (R := R) (L := L) Vb ⟨by decide, Vaq (W6 58 L) rfl ?_⟩
  rw [rowD, eq_nil]
  simp only [wBl]
  by_cases hne : L = []
  · subst hne
    simp only [List.map_nil, List.isEmpty_nil, Bool.not_true, Bool.false_eq_true, if_false]
    exact fin (.inl rfl)
  · have hlen : (!(L.map lvD).isEmpty) = true := by cases L with
      | nil => exact absurd rfl hne
      | cons a r => rfl
    simp only [hlen, if_true, wI, wE, List.getElem?_cons_zero, List.getElem?_cons_succ]
    refine Wam (ν := []) (R := R) (L := L) Vb ?_
    simp only [rowD, wSeq, List.map_nil]
    refine comp_sgl trivial L ?_
    refine ⟨by decide, ?_⟩
    simp only [wCmp, wBl]
    refine ⟨W6 58 (sgl L), rfl, ?_⟩
    rw [eq_nil]
    by_cases hs : Sg L
    · have : ((sgl L).map lvD).isEmpty = false := by
        cases e : sgl L with
        | nil => exact absurd e (sgl_ne.mpr hs)
        | cons a r => rfl
      simp only [this, Bool.false_eq_true, if_false]
      exact fin (.inr hs)
    · have : ((sgl L).map lvD).isEmpty = true := by
        cases e : sgl L with
        | nil => rfl
        | cons a r => exact absurd (sgl_ne.mp (by rw [e]; simp)) hs
      simp only [this, if_true]
      refine tlW_ok hl ?_ hm lp hne hs hsn hsl
      intro m' ρ μ' h1 h2
      exact ⟨m', h1, h2⟩
def spL_layout:DSp:=fun ds μ Q=>∃ (n:Nat) (d m:Int),ds=[.loc n,.int d,.int m]∧Yr μ n∧(d=3∨d=4)∧0≤m∧m≤9∧∀ (l:Ly) (b:Int) (c:Cell),Ok4 l→l.sum≤m→Q (lvD l) (bx μ n b ++ [c])
def nL_layout:List Str:=["box","drives","most","left","found","k","part","turn"]
noncomputable def iL_layout:Ss:=(.cons (.set 3 (.call "_law_take" spL_take (.cons (.var 0) (.cons (.bin .Add (.var 2) (.cst (.int 1))) .nil)))) (.cons (.set 4 (.lst true .nil)) (.cons (.for_ [5] false (.rng (.cons (.var 1) .nil)) (.cons (.set 6 (.blt "min" (.cons (.var 3) (.cons (.idx (.lst false (.cons (.cst (.int 0)) (.cons (.cst (.int 1)) (.cons (.cst (.int 2)) (.cons (.cst (.int 3)) (.cons (.var 3) .nil)))))) (.call "_law_take" spL_take (.cons (.var 0) (.cons (.cst (.int 5)) .nil)))) .nil)))) (.cons (.set 3 (.bin .Sub (.var 3) (.var 6))) (.cons (.exp (.meth "append" (.var 4) (.cons (.var 6) .nil))) .nil)))) (.cons (.set 7 (.call "_law_take" spL_take (.cons (.var 0) (.cons (.var 1) .nil)))) (.cons (.ret (.blt "tuple" (.cons (.cat false (.slc false (.var 4) (.cons (.var 7) .nil) .nil) (.slc false (.var 4) .nil (.cons (.var 7) .nil))) .nil))) .nil)))))
theorem box_lt {μ:Mem} {n:Nat} (h:Yr μ n):n < μ.length:=by obtain ⟨b,h⟩:=h; exact Vu h
theorem Vh {μ ν:Mem} {n:Nat} (h:Yr μ n):Yr (μ ++ ν) n:=by obtain ⟨b,h⟩:=h; exact ⟨b,Wh h⟩
theorem bx_app {μ ν:Mem} {n:Nat} {b:Int} (h:n < μ.length):bx (μ ++ ν) n b=bx μ n b ++ ν:=by unfold bx; rw [List.set_append_left _ _ h]
theorem bx_ln {μ:Mem} {n:Nat} {b:Int}:(bx μ n b).length=μ.length:=by simp [bx]
theorem idx5 {left w:Int} {μ:Mem} {Q:QD} (hl:0≤left) (w0:0≤w) (w5:w < 5) (q:∀ c:Int,0≤c→Q (.int c) μ):wIdx (.lst [.int 0,.int 1,.int 2,.int 3,.int left]) (.int w) μ Q:=by
 have hw:w=0∨w=1∨w=2∨w=3∨w=4:=by omega
 rcases hw with rfl | rfl | rfl | rfl | rfl
 ·exact q 0 (by decide)
 ·exact q 1 (by decide)
 ·exact q 2 (by decide)
 ·exact q 3 (by decide)
 ·exact q left hl
theorem kL_layout:Keeps nL_layout iL_layout spL_layout:=by
 rintro ds μ Q ⟨n,d,m,rfl,hb,hd,m0,m9,q⟩
 have hn:=box_lt hb
 simp only [iL_layout,nL_layout,Yd,topZ,wSs,wS,wE,wEs,wI,wBin,newL,wRng,Wz,List.map_cons,List.map_nil,List.length_cons,List.length_nil,List.cons_append,List.nil_append,List.getElem?_cons_zero,List.getElem?_cons_succ,List.replicate,List.set_cons_succ,List.set_cons_zero]
 refine ⟨hb,by omega,by omega,fun v b1 v0 v1=>⟨by decide,by simp only [lim]; omega,by omega,?_⟩⟩
 have hdl:∃ k:Nat,d=(k:Int)∧(k=3∨k=4):=⟨d.toNat,by omega,by omega⟩
 obtain ⟨k,rfl,hk⟩:=hdl
 rw [Int.toNat_natCast,Xm]
 refine Ze Zd (List.range k) (fun pre ρ μ'=>∃ (left b:Int) (found:Ly) (x5 x6 x7:Option D),ρ=[some (.loc n),some (.int (k:Int)),some (.int m),some (.int left),some (.loc μ.length),x5,x6,x7]∧μ'=bx μ n b ++ [.lst (found.map D.int)]∧found.length=pre.length∧(∀ x∈found,0≤x)∧0≤left∧found.sum + left=v) ?_ ?_ _ _ ⟨v,b1,[],none,none,none,by rw [bx_ln],rfl,rfl,by simp,v0,by simp⟩
 ·rintro pre x post e ρ μ1 N hN ⟨left,b,found,x5,x6,x7,rfl,rfl,hf,h0,hl,hs⟩
  refine ⟨trivial,?_⟩
  have hpk:pre.length≤4:=by have:=congrArg List.length e; simp at this; omega
  simp only [Yg,List.set_cons_succ,List.set_cons_zero,List.getElem?_cons_zero,List.getElem?_cons_succ]
  refine ⟨by decide,Vh (Xj hb),by decide,by decide,fun w b2 w0 w5=>?_⟩
  rw [bx_app (by rw [bx_ln]; exact hn),bx_bx]
  refine idx5 hl w0 w5 fun c c0=>?_
  simp only [wBlt,List.set_cons_succ,List.set_cons_zero,List.getElem?_cons_zero,List.getElem?_cons_succ]
  have hp0:0≤(if c < left then c else left):=by split <;> omega
  have hp1:(if c < left then c else left)≤left:=by split <;> omega
  generalize (if c < left then c else left)=p at hp0 hp1
  have hg:(bx μ n b2 ++ [Cell.lst (found.map D.int)])[μ.length]? = some (.lst (found.map D.int)):=by
   have:=Vb (μ:=bx μ n b2) (ν:=[]) (c:=Cell.lst (found.map D.int)); rwa [bx_ln] at this
  simp only [isCell,hg,Zu,Yl,List.length_map]
  refine ⟨trivial,by simp only [lim]; omega,hN _ _ ⟨left - p,b2,found ++ [p],_,_,_,rfl,?_,by simp [hf],?_,by omega,by simp; omega⟩⟩
  ·have:=Z5 (μ:=bx μ n b2) (c:=Cell.lst (found.map D.int)) (c':=.lst (found.map D.int ++ [.int p]))
   rw [bx_ln] at this
   rw [this]; simp
  ·intro y hy
   rcases List.mem_append.mp hy with z | z
   ·exact h0 y z
   ·have:y=p:=by simpa using z
    omega
 ·rintro ρ μ1 ⟨left,b,found,x5,x6,x7,rfl,rfl,hf,h0,hl,hs⟩
  refine ⟨trivial,?_⟩
  have hfk:found.length=k:=by simpa using hf
  simp only [List.set_cons_succ,List.set_cons_zero,List.getElem?_cons_zero,List.getElem?_cons_succ]
  refine ⟨Vh (Xj hb),by omega,by omega,fun t b2 t0 t1=>?_⟩
  rw [bx_app (by rw [bx_ln]; exact hn),bx_bx]
  have hg:(bx μ n b2 ++ [Cell.lst (found.map D.int)])[μ.length]? = some (.lst (found.map D.int)):=by
   have:=Vb (μ:=bx μ n b2) (ν:=[]) (c:=Cell.lst (found.map D.int)); rwa [bx_ln] at this
  simp only [wO,wE,wInt,List.set_cons_succ,List.set_cons_zero,List.getElem?_cons_zero,List.getElem?_cons_succ,wSlc,hg,newL,cutD_from _ t0,cutD_to _ t0,wCat,wlOf,List.length_drop,List.length_take,List.length_map,wBlt,Yb]
  refine ⟨by simp only [lim]; omega,?_⟩
  have e1:(found.map D.int).drop t.toNat ++ (found.map D.int).take t.toNat=(found.drop t.toNat ++ found.take t.toNat).map D.int:=by simp
  rw [e1]
  have hsum:(found.drop t.toNat ++ found.take t.toNat).sum=found.sum:=by
   rw [List.sum_append,Int.add_comm,← List.sum_append,List.take_append_drop]
  refine q _ _ _ ⟨?_,?_,?_⟩ ?_
  ·simp; omega
  ·intro y hy
   rcases List.mem_append.mp hy with z | z
   ·exact h0 y (List.mem_of_mem_drop z)
   ·exact h0 y (List.mem_of_mem_take z)
  ·rw [hsum]; omega
  ·rw [hsum]; omega
end DW.LYR
end
section
set_option autoImplicit false
namespace DW.LYR
open PySem DW DW.K03
theorem thaw_lv (μ:Mem) (n:Nat) (l:Ly):thaw μ n (lvD l)=lvD l:=by
 cases n with
 | zero=>rfl
 | succ n=>rw [lvD,Zbd,Ybd _ _ D.int (thaw_int μ n)]
theorem Xas {μ ν:Mem} {A B:Cell} (n:Nat):∀ {js:List Nat} {R:List (List Ly)},AtV ν js R→(locs μ.length js).map (thaw (μ ++ A :: B :: ν) (n + 1))=R.map rowD
 | [],[],_=>rfl
 | j :: js,r :: R,h=>by
  have ih:=Xas (μ:=μ) (A:=A) (B:=B) n h.2
  have e:(μ ++ A :: B :: ν)[μ.length + 2 + j]? = some (.lst (r.map lvD)):=by rw [Xa5]; exact h.1
  unfold locs at ih ⊢
  rw [List.map_cons,List.map_cons,List.map_cons,ih,Xbd e,Ybd _ _ lvD (thaw_lv _ n)]
  rfl
theorem thaw_told {μ ν:Mem} {B:Cell} {js:List Nat} {R:List (List Ly)} (n:Nat) (h:AtV ν js R):thaw (μ ++ .lst (locs μ.length js) :: B :: ν) (n + 2) (.loc μ.length) = .lst (R.map rowD):=by
 rw [Xbd Vb,Xas n h]
theorem AtV.mem {ν:Mem}:∀ {js:List Nat} {R:List (List Ly)},AtV ν js R→∀ j∈js,∃ r∈R,ν[j]? = some (.lst (r.map lvD))
 | [],[],_,j,hj=>by simp at hj
 | j :: js,r :: R,h,k,hk=>by
  rcases List.mem_cons.mp hk with rfl | hk
  ·exact ⟨r,by simp,h.1⟩
  ·obtain ⟨r',h1,h2⟩:=h.2.mem k hk
   exact ⟨r',by simp [h1],h2⟩
theorem rows_eq (R:List (List Ly)):eqD (.lst (R.map rowD)) (.lst (R.map rowD))=true:=eqD_self 60 _ (Xk 57 R)
end DW.LYR
end
section
set_option autoImplicit false
namespace DW.K66
open PySem DW DW.K03 DW.LYR
def nL_box:List Str:=nL_box2
noncomputable def iL_box:Ss:=iL_box2
theorem kL_box:Keeps nL_box iL_box spL_box:=kL_box2
noncomputable abbrev Nb:=Int ⊕ Bool
noncomputable def sD:Nb→D
 | .inl i=>.int i
 | .inr b=>.bl b
noncomputable def isI:Nb→Bool
 | .inl _=>true
 | .inr _=>false
noncomputable def oD (o:List Nb):D:=.tup (o.map sD)
noncomputable def rD (r:List (List Nb)):D:=.lst (r.map oD)
noncomputable def thD (rs:List (List (List Nb))):D:=.lst (rs.map rD)
noncomputable def allO (r:List (List Nb)):Bool:=r.all fun o=>o.all isI
noncomputable def allI (rs:List (List (List Nb))):Bool:=rs.all allO
theorem Xan {α β:Type} (f:α→D) (g:β→D) (hx:∀ d a,eqD d (f a)=true→∃ b,d=g b):∀ (as:List α) (ds:List D),eqDs ds (as.map f)=true→∃ bs:List β,ds=bs.map g
 | [],[],_=>⟨[],rfl⟩
 | [],d :: ds,h=>by simp [eqDs] at h
 | a :: as,[],h=>⟨[],rfl⟩
 | a :: as,d :: ds,h=>by
  simp only [List.map_cons,eqDs,Bool.and_eq_true] at h
  obtain ⟨b,rfl⟩:=hx d a h.1
  obtain ⟨bs,rfl⟩:=Xan f g hx as ds h.2
  exact ⟨b :: bs,rfl⟩
theorem eq_int {d:D} {i:Int} (h:eqD d (.int i)=true):∃ x:Nb,d=sD x:=by
 cases d with
 | int j=>exact ⟨.inl j,rfl⟩
 | bl b=>exact ⟨.inr b,rfl⟩
 | _=>simp [eqD] at h
theorem eq_lv {d:D} {l:Ly} (h:eqD d (lvD l)=true):∃ o:List Nb,d=oD o:=by
 cases d with
 | tup ds =>
  have h:eqDs ds (l.map D.int)=true:=by simpa [eqD,lvD] using h
  obtain ⟨o,rfl⟩:=Xan D.int sD (fun d i h=>eq_int h) l ds h
  exact ⟨o,rfl⟩
 | _=>simp [eqD,lvD] at h
theorem eq_row {d:D} {r:List Ly} (h:eqD d (rowD r)=true):∃ o:List (List Nb),d=rD o:=by
 cases d with
 | lst ds =>
  have h:eqDs ds (r.map lvD)=true:=by simpa [eqD,rowD] using h
  obtain ⟨o,rfl⟩:=Xan lvD oD (fun d i h=>eq_lv h) r ds h
  exact ⟨o,rfl⟩
 | _=>simp [eqD,rowD] at h
theorem eq_rows {d:D} {R:List (List Ly)} (h:eqD d (.lst (R.map rowD))=true):∃ rs,d=thD rs:=by
 cases d with
 | lst ds =>
  have h:eqDs ds (R.map rowD)=true:=by simpa [eqD] using h
  obtain ⟨o,rfl⟩:=Xan rowD rD (fun d i h=>eq_row h) R ds h
  exact ⟨o,rfl⟩
 | _=>simp [eqD] at h
noncomputable def isIntD:D→Bool
 | .int _=>true
 | _=>false
noncomputable def whO:D→Bool
 | .tup xs=>xs.all isIntD
 | _=>true
noncomputable def whR:D→Bool
 | .lst os=>os.all whO
 | _=>true
noncomputable def whD:D→Bool
 | .lst rs=>rs.all whR
 | _=>true
theorem wh_th (rs:List (List (List Nb))):whD (thD rs)=allI rs:=by
 have e0:∀ x:Nb,isIntD (sD x)=isI x:=fun x=>by cases x <;> rfl
 have e1:∀ o:List Nb,whO (oD o)=o.all isI:=fun o=>by simp [whO,oD,List.all_map,Function.comp_def,e0]
 have e2:∀ r:List (List Nb),whR (rD r)=allO r:=fun r=>by simp [whR,rD,allO,List.all_map,Function.comp_def,e1]
 simp [whD,thD,allI,List.all_map,Function.comp_def,e2]
noncomputable def isLy (T:D) (R:List (List Ly)):Bool:=eqD T (.lst (R.map rowD)) && whD T
noncomputable def Th (μ:Mem) (T:D):Prop:=flat 60 T=true∨∃ m,T = .loc m∧dicB μ m=true
def sp_are_layers:DSp:=fun ds μ Q=>∃ (T:D) (l:Ly),ds=[T,lvD l]∧Ok4 l∧Th μ T∧∀ (R:List (List Ly)) (ν:Mem),Done l R→Q (.bl (isLy T R)) (μ ++ ν)
def spL_is:DSp:=fun ds μ Q=>∃ (T:D) (R:List (List Ly)),ds=[T,.lst (R.map rowD)]∧Th μ T∧Q (.bl (isLy T R)) μ
def spL_odd:DSp:=fun ds μ Q=>∃ n:Nat,ds=[.loc n]∧Yr μ n∧∀ d b,(flat 60 d=true∨d = .loc μ.length)→Q d (bx (μ ++ [.dic [.inr [97]] [.int 1]]) n b)
def spL_turned:DSp:=fun ds μ Q=>∃ (n:Nat) (R:List (List Ly)),ds=[.loc n,.lst (R.map rowD)]∧Yr μ n∧R≠[]∧R.length≤10∧(∀ r∈R,r≠[]∧r.length < 64∧∀ o∈r,0 < o.length∧o.length≤4) ∧
 ∀ (b:Int) (Ts:List D),(∀ T∈Ts,flat 60 T=true)→Ts.length≤100→Q (.lst Ts) (bx μ n b)
def n_are_layers:List Str:=["thing","layout","layer","one"]
noncomputable def tlAr:Ss:=(.cons (.for_ [2] false (.seq (.var 0)) (.cons (.for_ [3] false (.seq (.var 2)) (.cons (.ite (.not (.blt "all" (.cons (.comp false 1 false [] (.call "is_whole" sp_is_whole (.cons (.var 0) .nil)) (.seq (.var 3)) .nil) .nil))) (.cons (.ret (.cst (.bl false))) .nil) .nil) .nil)) .nil)) (.cons (.ret (.cst (.bl true))) .nil))
noncomputable def i_are_layers:Ss:=(.cons (.ite (.cmpX (.var 0) (.call "layers" sp_layers (.cons (.var 1) .nil)) true) (.cons (.ret (.cst (.bl false))) .nil) .nil) tlAr)
def nL_odd:List Str:=["box"]
noncomputable def iL_odd:Ss:=(.cons (.ret (.idx (.lst false (.cons (.cst .non) (.cons (.cst (.bl true)) (.cons (.cst (.bl false)) (.cons (.cst (.str [49])) (.cons (.cst (.str [])) (.cons (.tup (.cons (.cst (.int 1)) (.cons (.cst (.int 2)) .nil))) (.cons (.lst false (.cons (.cst (.int 1)) .nil)) (.cons (.dsp [.inr [97]] (.cons (.cst (.int 1)) .nil)) (.cons (.tup .nil) .nil)))))))))) (.call "_law_take" spL_take (.cons (.var 0) (.cons (.cst (.int 9)) .nil))))) .nil)
def nL_is:List Str:=["thing","rows","row","one"]
noncomputable def tlIs:Ss:=(.cons (.for_ [2] false (.seq (.var 0)) (.cons (.ite (.not (.isin (.var 2) "list")) (.cons (.ret (.cst (.bl false))) .nil) .nil) (.cons (.for_ [3] false (.seq (.var 2)) (.cons (.ite (.or (.not (.isin (.var 3) "tuple")) (.cmp .NotEq (.comp false 1 false [] (.var 0) (.seq (.var 3)) (.cons (.not (.call "_law_whole" spL_whole (.cons (.var 0) .nil))) .nil)) (.lst false .nil))) (.cons (.ret (.cst (.bl false))) .nil) .nil) .nil)) .nil))) (.cons (.ret (.cst (.bl true))) .nil))
noncomputable def iL_is:Ss:=(.cons (.ite (.or (.not (.isin (.var 0) "list")) (.cmp .NotEq (.var 0) (.var 1))) (.cons (.ret (.cst (.bl false))) .nil) .nil) tlIs)
theorem allB_map {α:Type} (f:α→Bool):∀ l:List α,allB (l.map fun x=>D.bl (f x))=some (l.all f)
 | []=>rfl
 | x :: l=>by simp [allB,allB_map f l]
theorem tlAr_ok {Q:QD} {rs:List (List (List Nb))} {x1 x2 x3:Option D} {μ:Mem} (h:Q (.bl (allI rs)) μ):wSs tlAr (topZ Q) [some (thD rs),x1,x2,x3] μ:=by
 simp only [tlAr,wSs,wS,wI,wE,wSeq,thD,List.getElem?_cons_zero]
 refine Ye (fun ds ρ μ'=>∃ rs' x2 x3,ds=rs'.map rD∧ρ=[some (thD rs),x1,x2,x3]∧μ'=μ∧allI rs=allI rs') ?_ ?_ _ _ _ ⟨rs,x2,x3,rfl,rfl,rfl,rfl⟩
 ·rintro d ds ρ μ1 N hN ⟨rs',x2,x3,e,rfl,rfl,ha⟩
  refine ⟨trivial,?_⟩
  cases rs' with
  | nil=>simp at e
  | cons r rs' =>
   simp only [List.map_cons,List.cons.injEq] at e
   obtain ⟨rfl,rfl⟩:=e
   simp only [Yg,List.set_cons_succ,List.set_cons_zero,List.getElem?_cons_zero,List.getElem?_cons_succ,rD,wSeq]
   refine Ye (fun ds ρ μ'=>∃ r' x3,ds=r'.map oD∧ρ=[some (thD rs),x1,some (rD r),x3]∧μ'=μ1∧allI rs=(allO r' && allI rs')) ?_ ?_ _ _ _ ⟨r,x3,rfl,rfl,rfl,by rw [ha]; rfl⟩
   ·rintro d ds ρ μ2 N2 hN2 ⟨r',x3,e,rfl,rfl,ha2⟩
    refine ⟨trivial,?_⟩
    cases r' with
    | nil=>simp at e
    | cons o r' =>
     simp only [List.map_cons,List.cons.injEq] at e
     obtain ⟨rfl,rfl⟩:=e
     simp only [Yg,wT,wE,wEs,wI,newL,List.set_cons_succ,List.set_cons_zero,List.getElem?_cons_zero,List.getElem?_cons_succ,oD,wSeq,List.map_nil]
     refine Zq sD (fun x=>D.bl (isI x)) trivial _ _ ?_ ?_
     ·intro x hx Y N' z
      simp only [bindC,wTs,wT,wE,wEs,List.getElem?_cons_zero]
      cases x with
      | inl i=>exact z
      | inr b=>exact z
     ·simp only [List.nil_append,wBlt,Wm,Yb,Option.bind_some,allB_map,wTru,truth]
      have hsplit:∀ b:Bool,o.all isI=b→(if (!o.all isI)=true then Q (.bl false) μ2 else N2 [some (thD rs),x1,some (rD r),some (oD o)] μ2):=fun b hb=>by
       cases b with
       | true=>rw [hb]; exact hN2 _ _ ⟨r',_,rfl,rfl,rfl,by rw [ha2]; simp [allO,hb]⟩
       | false =>
        rw [hb]
        have:allI rs=false:=by rw [ha2]; simp [allO,hb]
        rw [this] at h
        exact h
      exact hsplit _ rfl
   ·rintro ρ μ2 ⟨r',x3,e,rfl,rfl,ha2⟩
    refine ⟨trivial,hN _ _ ⟨rs',_,_,rfl,rfl,rfl,?_⟩⟩
    have:r'=[]:=by simpa using e.symm
    subst this
    simpa [allO] using ha2
 ·rintro ρ μ1 ⟨rs',x2,x3,e,rfl,rfl,ha⟩
  refine ⟨trivial,?_⟩
  have:rs'=[]:=by simpa using e.symm
  subst this
  rw [ha] at h
  exact h
theorem Vas (μ:Mem):∀ (n k:Nat) (d:D),flat k d=true→thaw μ n d=d
 | 0,k,d,_=>rfl
 | n + 1,k,d,h=>by
  have hl:∀ (k:Nat) (ds:List D),flats k ds=true→ds.map (thaw μ n)=ds:=by
   intro k ds
   induction ds with
   | nil=>intro _; rfl
   | cons d ds ih =>
    intro h
    simp only [flats,Bool.and_eq_true] at h
    rw [List.map_cons,Vas μ n k d h.1,ih h.2]
  cases d with
  | tup ds =>
   cases k with
   | zero=>simp [flat] at h
   | succ k=>rw [Zbd,hl k ds h]
  | lst ds =>
   cases k with
   | zero=>simp [flat] at h
   | succ k=>rw [thaw_lst,hl k ds h]
  | loc n=>cases k <;> simp [flat] at h
  | _=>rfl
theorem neX_flat {T y:D} {μ:Mem} {Q:QD} (hf:flat 60 T=true) (h:wEqT true T y μ Q):wNeX T y μ Q:=by
 cases T with
 | loc n=>simp [flat] at hf
 | _=>exact h
theorem k_are_layers:Keeps n_are_layers i_are_layers sp_are_layers:=by
 rintro ds μ Q ⟨T,l,rfl,hl,ht,h⟩
 simp only [i_are_layers,n_are_layers,Yd,wSs,wS,wT,wE,wEs,List.map_cons,List.map_nil,List.length_cons,List.length_nil,List.cons_append,List.nil_append,List.getElem?_cons_zero,List.getElem?_cons_succ,List.replicate]
 refine ⟨l,rfl,hl,fun R js B ν hD hR h64 hat hnd=>?_⟩
 have hq:=h R (.lst (locs μ.length js) :: B :: ν) hD
 rcases ht with hf | ⟨m,rfl,hm⟩
 ·refine neX_flat hf ?_
  unfold wEqT
  rw [Vas _ 8 60 T hf,thaw_told 6 hat]
  refine ⟨hf,Xk 57 R,?_⟩
  by_cases c:eqD T (.lst (R.map rowD))=true
  ·obtain ⟨rs,rfl⟩:=eq_rows c
   simp only [isLy,c,Bool.true_and,wh_th] at hq
   simp only [c,wBl]
   exact tlAr_ok hq
  ·have c:eqD T (.lst (R.map rowD))=false:=by simpa using c
   simp only [isLy,c,Bool.false_and] at hq
   simp only [c,wBl]
   exact hq
 ·obtain ⟨ks,ds,hk⟩:=dic_at hm
  have hk2:=Wh (ν:=.lst (locs μ.length js) :: B :: ν) hk
  simp only [wNeX,hk2,Vb,wBl,if_true]
  simp only [isLy,eqD,Bool.false_and] at hq
  exact hq
theorem tlIs_ok {Q:QD} {rs:List (List (List Nb))} {x1 x2 x3:Option D} {μ:Mem} (h:Q (.bl (allI rs)) μ):wSs tlIs (topZ Q) [some (thD rs),x1,x2,x3] μ:=by
 simp only [tlIs,wSs,wS,wI,wE,wSeq,thD,List.getElem?_cons_zero]
 refine Ye (fun ds ρ μ'=>∃ rs' x2 x3,ds=rs'.map rD∧ρ=[some (thD rs),x1,x2,x3]∧μ'=μ∧allI rs=allI rs') ?_ ?_ _ _ _ ⟨rs,x2,x3,rfl,rfl,rfl,rfl⟩
 ·rintro d ds ρ μ1 N hN ⟨rs',x2,x3,e,rfl,rfl,ha⟩
  refine ⟨trivial,?_⟩
  cases rs' with
  | nil=>simp at e
  | cons r rs' =>
   simp only [List.map_cons,List.cons.injEq] at e
   obtain ⟨rfl,rfl⟩:=e
   simp only [Yg,wT,wE,Wx,tyOf,isTy,wBl,List.set_cons_succ,List.set_cons_zero,List.getElem?_cons_zero,List.getElem?_cons_succ,rD,wSeq,beq_self_eq_true,Bool.true_or,Bool.not_true,Bool.false_eq_true,if_false]
   refine Ye (fun ds ρ μ'=>∃ r' x3,ds=r'.map oD∧ρ=[some (thD rs),x1,some (rD r),x3]∧μ'=μ1∧allI rs=(allO r' && allI rs')) ?_ ?_ _ _ _ ⟨r,x3,rfl,rfl,rfl,by rw [ha]; rfl⟩
   ·rintro d ds ρ μ2 N2 hN2 ⟨r',x3,e,rfl,rfl,ha2⟩
    refine ⟨trivial,?_⟩
    cases r' with
    | nil=>simp at e
    | cons o r' =>
     simp only [List.map_cons,List.cons.injEq] at e
     obtain ⟨rfl,rfl⟩:=e
     simp only [Yg,wT,wE,wEs,wI,newL,Wx,tyOf,isTy,wBl,List.set_cons_succ,List.set_cons_zero,List.getElem?_cons_zero,List.getElem?_cons_succ,oD,wSeq,List.map_nil,beq_self_eq_true,Bool.true_or,Bool.not_true,Bool.false_eq_true,if_false]
     refine Vf sD (fun x=>!isI x) sD trivial _ _ ?_ ?_
     ·intro x hx Y N' z
      simp only [bindC,wTs,wT,wE,wEs,List.getElem?_cons_zero]
      cases x with
      | inl i=>exact z
      | inr b=>exact z
     ·simp only [wCmp,wBl,wBlt,List.nil_append]
      have hfl:∀ l:List Nb,flats 59 (l.map sD)=true:=fun l=>by
       induction l with
       | nil=>rfl
       | cons x l ih=>simp only [List.map_cons,flats,ih,Bool.and_true]; cases x <;> rfl
      refine ⟨by decide,hfl _,rfl,?_⟩
      have hsplit:∀ b:Bool,o.all isI=b→(if (!eqD (.lst ((o.filter fun x=>!isI x).map sD)) (.lst []))=true then Q (.bl false) μ2 else N2 [some (thD rs),x1,some (rD r),some (oD o)] μ2):=fun b hb=>by
       cases b with
       | true =>
        have:(o.filter fun x=>!isI x)=[]:=by
         rw [List.filter_eq_nil_iff]
         intro x hx
         simp [List.all_eq_true.mp hb x hx]
        rw [this]
        exact hN2 _ _ ⟨r',_,rfl,rfl,rfl,by rw [ha2]; simp [allO,hb]⟩
       | false =>
        have:allI rs=false:=by rw [ha2]; simp [allO,hb]
        rw [this] at h
        cases c:(o.filter fun x=>!isI x) with
        | nil =>
         rw [List.filter_eq_nil_iff] at c
         have:o.all isI=true:=List.all_eq_true.mpr fun x hx=>by simpa using c x hx
         rw [this] at hb
         cases hb
        | cons x xs=>exact h
      exact hsplit _ rfl
   ·rintro ρ μ2 ⟨r',x3,e,rfl,rfl,ha2⟩
    refine ⟨trivial,hN _ _ ⟨rs',_,_,rfl,rfl,rfl,?_⟩⟩
    have:r'=[]:=by simpa using e.symm
    subst this
    simpa [allO] using ha2
 ·rintro ρ μ1 ⟨rs',x2,x3,e,rfl,rfl,ha⟩
  refine ⟨trivial,?_⟩
  have:rs'=[]:=by simpa using e.symm
  subst this
  rw [ha] at h
  exact h
theorem kL_is:Keeps nL_is iL_is spL_is:=by
 rintro ds μ Q ⟨T,R,rfl,ht,h⟩
 have no:isLy T R=false→Q (.bl false) μ:=fun e=>e ▸ h
 simp only [iL_is,nL_is,Yd,wSs,wS,wT,wE,wEs,Wx,List.map_cons,List.map_nil,List.length_cons,List.length_nil,List.cons_append,List.nil_append,List.getElem?_cons_zero,List.getElem?_cons_succ,List.replicate]
 rcases ht with hf | ⟨m,rfl,hm⟩
 ·cases T with
  | lst ds =>
   simp only [tyOf,isTy,wBl,beq_self_eq_true,Bool.true_or,Bool.not_true,Bool.false_eq_true,if_false]
   refine Vaq hf (Xk 57 R) ?_
   by_cases c:eqD (.lst ds) (.lst (R.map rowD))=true
   ·obtain ⟨rs,e⟩:=eq_rows c
    rw [e] at h c ⊢
    simp only [isLy,c,Bool.true_and,wh_th] at h
    simp only [c,wBl,Bool.not_true,Bool.false_eq_true,if_false]
    exact tlIs_ok h
   ·have c:eqD (.lst ds) (.lst (R.map rowD))=false:=by simpa using c
    simp only [c,wBl,Bool.not_false,if_true]
    exact no (by simp only [isLy,c,Bool.false_and])
  | ro _=>simp [flat] at hf
  | loc _=>simp [flat] at hf
  | dic _ _=>simp [flat] at hf
  | fdc _ _=>simp [flat] at hf
  | _=>exact no rfl
 ·simp only [dic_ty hm]
  exact no rfl
end DW.K66
end
section
set_option autoImplicit false
namespace DW.K66
open PySem DW DW.K03 DW.LYR
theorem Xp (n:Nat):∀ ds:List D,flats n ds=true↔∀ d∈ds,flat n d=true
 | []=>by simp [flats]
 | d :: ds=>by simp [flats,Xp n ds]
theorem Vm {n:Nat} {ds:List D} (h:∀ d∈ds,flat n d=true):flat (n + 1) (.lst ds)=true:=by
 show flats n ds=true
 exact (Xp n ds).mpr h
theorem Z2 {n:Nat} {ds:List D} (h:∀ d∈ds,flat n d=true):flat (n + 1) (.tup ds)=true:=by
 show flats n ds=true
 exact (Xp n ds).mpr h
theorem Wa7:∀ (n:Nat) (d:D),flat n d=true→flat (n + 1) d=true
 | 0,d,h=>by cases d <;> first | exact h | (simp [flat] at h; done)
 | n + 1,d,h=>by
  cases d with
  | tup ds=>exact Z2 fun d hd=>Wa7 n d ((Xp n ds).mp h d hd)
  | lst ds=>exact Vm fun d hd=>Wa7 n d ((Xp n ds).mp h d hd)
  | _=>exact h
theorem Wg {n m:Nat} {d:D} (hm:n≤m) (h:flat n d=true):flat m d=true:=by
 obtain ⟨k,rfl⟩:∃ k,m=n + k:=⟨m - n,by omega⟩
 clear hm
 induction k with
 | zero=>exact h
 | succ k ih=>exact Wa7 _ _ ih
theorem mem_cut {ds:List D} {a b:Option Int} {d:D} (h:d∈cutD ds a b):d∈ds:=List.mem_of_mem_drop (List.mem_of_mem_take h)
theorem Ym (ds:List D) (a b:Option Int):(cutD ds a b).length≤ds.length:=by simp [cutD]; omega
theorem ix_lst {α:Type} {f:α→D} {l:List α} {i:Int} {μ:Mem} {Q:QD} (h0:0≤i) (h1:i < l.length) (q:∀ a∈l,Q (f a) μ):wIdx (.lst (l.map f)) (.int i) μ Q:=by
 have h2:i < ((l.map f).length:Int):=by simpa using h1
 have h3:i.toNat < l.length:=by omega
 simp only [wIdx,Yb,ixD,h0,h2,if_true,Option.bind_some,List.getElem?_map,List.getElem?_eq_getElem h3,Option.map_some]
 exact q _ (List.getElem_mem h3)
theorem ix_tup {α:Type} {f:α→D} {l:List α} {i:Int} {μ:Mem} {Q:QD} (h0:0≤i) (h1:i < l.length) (q:∀ a∈l,Q (f a) μ):wIdx (.tup (l.map f)) (.int i) μ Q:=by
 have h2:i < ((l.map f).length:Int):=by simpa using h1
 have h3:i.toNat < l.length:=by omega
 simp only [wIdx,Yb,ixD,h0,h2,if_true,Option.bind_some,List.getElem?_map,List.getElem?_eq_getElem h3,Option.map_some]
 exact q _ (List.getElem_mem h3)
def nL_turned:List Str:=["box","rows","at","row","where","one","place","other","some","truth","found"]
noncomputable def tlTc:Ss:=(.cons (.set 10 (.comp false 1 false [1,2] (.cat false (.cat false (.slc false (.var 1) .nil (.cons (.var 2) .nil)) (.lst false (.cons (.var 0) .nil))) (.slc false (.var 1) (.cons (.bin .Add (.var 2) (.cst (.int 1))) .nil) .nil)) (.seq (.var 8)) .nil)) (.cons (.ret (.cat false (.var 10) (.lst false (.cons (.cat false (.slc false (.var 1) .nil (.cons (.var 2) .nil)) (.slc false (.var 1) (.cons (.bin .Add (.var 2) (.cst (.int 1))) .nil) .nil)) (.cons (.cat false (.var 1) (.lst false (.cons (.lst false .nil) .nil))) (.cons (.blt "tuple" (.cons (.var 1) .nil)) (.cons (.cat false (.cat false (.slc false (.var 1) .nil (.cons (.var 2) .nil)) (.lst false (.cons (.lst false .nil) .nil))) (.slc false (.var 1) (.cons (.var 2) .nil) .nil)) (.cons (.lst false .nil) (.cons (.lst false (.cons (.var 1) .nil)) .nil))))))))) .nil))
noncomputable def tlTb:Ss:=(.cons (.set 8 (.lst false (.cons (.cat false (.slc false (.var 3) .nil (.cons (.var 4) .nil)) (.slc false (.var 3) (.cons (.bin .Add (.var 4) (.cst (.int 1))) .nil) .nil)) (.cons (.cat false (.cat false (.slc false (.var 3) .nil (.cons (.var 4) .nil)) (.lst false (.cons (.var 5) .nil))) (.slc false (.var 3) (.cons (.var 4) .nil) .nil)) (.cons (.cat false (.cat false (.slc false (.var 3) .nil (.cons (.var 4) .nil)) (.lst false (.cons (.var 7) .nil))) (.slc false (.var 3) (.cons (.bin .Add (.var 4) (.cst (.int 1))) .nil) .nil)) .nil))))) (.cons (.set 8 (.cat false (.var 8) (.lst false (.cons (.cat false (.cat false (.slc false (.var 3) .nil (.cons (.var 4) .nil)) (.lst false (.cons (.blt "list" (.cons (.var 5) .nil)) .nil))) (.slc false (.var 3) (.cons (.bin .Add (.var 4) (.cst (.int 1))) .nil) .nil)) (.cons (.cat false (.var 3) (.lst false (.cons (.var 7) .nil))) (.cons (.lrng (some false) (.var 3) true) (.cons (.blt "tuple" (.cons (.var 3) .nil)) .nil))))))) (.cons (.set 9 (.bin .Add (.bin .Add (.slc false (.var 5) .nil (.cons (.var 6) .nil)) (.tup (.cons (.cmp .Eq (.idx (.var 5) (.var 6)) (.cst (.int 1))) .nil))) (.slc false (.var 5) (.cons (.bin .Add (.var 6) (.cst (.int 1))) .nil) .nil))) (.cons (.set 8 (.cat false (.var 8) (.lst false (.cons (.cat false (.cat false (.slc false (.var 3) .nil (.cons (.var 4) .nil)) (.lst false (.cons (.var 9) .nil))) (.slc false (.var 3) (.cons (.bin .Add (.var 4) (.cst (.int 1))) .nil) .nil)) (.cons (.cat false (.cat false (.slc false (.var 3) .nil (.cons (.var 4) .nil)) (.lst false (.cons (.cst .non) .nil))) (.slc false (.var 3) (.cons (.bin .Add (.var 4) (.cst (.int 1))) .nil) .nil)) .nil))))) tlTc))))
noncomputable def iL_turned:Ss:=(.cons (.set 2 (.call "_law_take" spL_take (.cons (.var 0) (.cons (.blt "len" (.cons (.var 1) .nil)) .nil)))) (.cons (.set 3 (.idx (.var 1) (.var 2))) (.cons (.set 4 (.call "_law_take" spL_take (.cons (.var 0) (.cons (.blt "len" (.cons (.var 3) .nil)) .nil)))) (.cons (.set 5 (.idx (.var 3) (.var 4))) (.cons (.set 6 (.call "_law_take" spL_take (.cons (.var 0) (.cons (.blt "len" (.cons (.var 5) .nil)) .nil)))) (.cons (.set 7 (.bin .Add (.bin .Add (.slc false (.var 5) .nil (.cons (.var 6) .nil)) (.tup (.cons (.bin .Add (.idx (.var 5) (.var 6)) (.cst (.int 1))) .nil))) (.slc false (.var 5) (.cons (.bin .Add (.var 6) (.cst (.int 1))) .nil) .nil))) tlTb))))))
def n_law:List Str:=["script","k","box","layout","rows","other","thing","found"]
noncomputable def tlL:Ss:=(.cons (.for_ [6] false (.seq (.cat false (.lst false (.cons (.var 4) (.cons (.var 5) (.cons (.call "_law_odd" spL_odd (.cons (.var 2) .nil)) .nil)))) (.call "_law_turned" spL_turned (.cons (.var 2) (.cons (.var 4) .nil))))) (.cons (.set 7 (.call "are_layers" sp_are_layers (.cons (.var 6) (.cons (.var 3) .nil)))) (.cons (.ite (.or (.not (.isin (.var 7) "bool")) (.cmp .NotEq (.var 7) (.call "_law_is" spL_is (.cons (.var 6) (.cons (.var 4) .nil))))) (.cons (.ret (.cst (.bl false))) .nil) .nil) .nil))) (.cons (.ite (.cmp .NotEq (.var 4) (.call "_law_layers" spL_layers (.cons (.var 3) .nil))) (.cons (.ret (.cst (.bl false))) .nil) .nil) .nil))
noncomputable def i_law:Ss:=(.cons (.for_ [1] false (.rng (.cons (.blt "max" (.cons (.cst (.int 1)) (.cons (.blt "min" (.cons (.blt "len" (.cons (.var 0) .nil)) (.cons (.cst (.int 2)) .nil))) .nil))) .nil)) (.cons (.set 2 (.call "_law_box" spL_box (.cons (.var 0) (.cons (.var 1) .nil)))) (.cons (.set 3 (.call "_law_layout" spL_layout (.cons (.var 2) (.cons (.bin .Add (.cst (.int 3)) (.call "_law_take" spL_take (.cons (.var 2) (.cons (.cst (.int 2)) .nil)))) (.cons (.cst (.int 6)) .nil))))) (.cons (.set 4 (.call "_law_layers" spL_layers (.cons (.var 3) .nil))) (.cons (.set 5 (.call "_law_layers" spL_layers (.cons (.lrng none (.var 3) true) .nil))) tlL))))) (.cons (.ret (.cst (.bl true))) .nil))
noncomputable def Al (n:Nat) (ds:List D):Prop:=∀ d∈ds,flat n d=true
theorem Xo {n:Nat}:Al n []:=fun _ h=>by simp at h
theorem Wc {n:Nat} {d:D} {ds:List D} (h:flat n d=true) (h2:Al n ds):Al n (d :: ds):=fun e he=>by
 rcases List.mem_cons.mp he with rfl | he
 ·exact h
 ·exact h2 e he
theorem Yi {n:Nat} {a b:List D} (h:Al n a) (h2:Al n b):Al n (a ++ b):=fun e he=>by
 rcases List.mem_append.mp he with he | he
 ·exact h e he
 ·exact h2 e he
theorem Ys {n:Nat} {ds:List D} (h:Al n ds) (a b:Option Int):Al n (cutD ds a b):=fun e he=>h e (mem_cut he)
theorem al_rev {n:Nat} {ds:List D} (h:Al n ds):Al n ds.reverse:=fun e he=>h e (List.mem_reverse.mp he)
theorem Va2 {n:Nat} {α:Type} {f:α→D} {l:List α} (h:∀ a∈l,flat n (f a)=true):Al n (l.map f):=fun e he=>by
 obtain ⟨a,ha,rfl⟩:=List.mem_map.mp he
 exact h a ha
theorem tlTc_ok {Q:QD} {μ:Mem} {rows S:List D} {at':Int} {v0 v3 v4 v5 v6 v7 v9 v10:Option D} (hr:Al 2 rows) (hl:rows.length≤10) (hS:Al 2 S) (hSl:S.length≤20) (q:∀ Ts,(∀ T∈Ts,flat 60 T=true)→Ts.length≤100→Q (.lst Ts) μ) :
  wSs tlTc (topZ Q) [v0,some (.lst rows),some (.int at'),v3,v4,v5,v6,v7,some (.lst S),v9,v10] μ:=by
 have a1:=Ym rows none (some at')
 have a2:=Ym rows (some (at' + 1)) none
 have a3:=Ym rows (some at') none
 have b1:=Ys hr none (some at')
 have b2:=Ys hr (some (at' + 1)) none
 have b3:=Ys hr (some at') none
 simp only [tlTc,wSs,wS,wI,wE,wEs,wSeq,List.getElem?_cons_zero,List.getElem?_cons_succ]
 refine Y7 (fun _=>true) (fun t=>.lst (cutD rows none (some at') ++ [t] ++ cutD rows (some (at' + 1)) none)) trivial S [] ?_ ?_
 ·intro d hd Y N z
  simp only [bindC,wTs,wT,wE,wEs,wO,wInt,wSlc,newL,wCat,wlOf,wBin,List.map_cons,List.map_nil,List.getElem?_cons_zero,List.getElem?_cons_succ]
  repeat refine ⟨(by simp only [List.length_append,List.length_cons,List.length_nil,lim]; omega),?_⟩
  exact z
 ·have e:S.filter (fun _=>true)=S:=by simp
  rw [e]
  simp only [newL,wE,wEs,wO,wInt,wSlc,wCat,wlOf,wBin,wBlt,Yb,List.nil_append,List.set_cons_succ,List.set_cons_zero,List.getElem?_cons_zero,List.getElem?_cons_succ]
  repeat refine ⟨(by simp only [List.length_append,List.length_cons,List.length_nil,List.length_map,lim]; omega),?_⟩
  refine q _ (fun T hT=>Wg (n:=4) (by decide) (?_:flat 4 T=true)) (by simp only [List.length_append,List.length_cons,List.length_nil,List.length_map]; omega)
  refine (?_:Al 4 _) T hT
  refine Yi (Va2 fun t ht=>Wg (n:=3) (by decide) (Vm (Yi (Yi b1 (Wc (hS t ht) Xo)) b2))) ?_
  refine Wc (Wg (n:=3) (by decide) (Vm (Yi b1 b2))) ?_
  refine Wc (Wg (n:=3) (by decide) (Vm (Yi hr (Wc rfl Xo)))) ?_
  refine Wc (Wg (n:=3) (by decide) (Z2 hr)) ?_
  refine Wc (Wg (n:=3) (by decide) (Vm (Yi (Yi b1 (Wc rfl Xo)) b3))) ?_
  refine Wc rfl ?_
  exact Wc (Vm (Wc (Vm hr) Xo)) Xo
theorem Vp (n:Nat) (l:Ly):Al n (l.map D.int):=Va2 fun a _=>by cases n <;> rfl
theorem tlTb_ok {Q:QD} {μ:Mem} {rows rd:List D} {ns:Ly} {at' W P:Int} {other:D} {v0 v8 v9 v10:Option D} (hr:Al 2 rows) (hl:rows.length≤10) (hd:Al 1 rd) (hdl:rd.length≤64) (hn:ns.length≤4) (P0:0≤P) (P1:P < ns.length) (ho:flat 1 other=true) (q:∀ Ts,(∀ T∈Ts,flat 60 T=true)→Ts.length≤100→Q (.lst Ts) μ) :
  wSs tlTb (topZ Q) [v0,some (.lst rows),some (.int at'),some (.lst rd),some (.int W),some (lvD ns),some (.int P),some other,v8,v9,v10] μ:=by
 have a1:=Ym rd none (some W)
 have a2:=Ym rd (some (W + 1)) none
 have a3:=Ym rd (some W) none
 have b1:=Ys hd none (some W)
 have b2:=Ys hd (some (W + 1)) none
 have b3:=Ys hd (some W) none
 have c1:=Ym (ns.map D.int) none (some P)
 have c2:=Ym (ns.map D.int) (some (P + 1)) none
 have e1:=Ys (Vp 0 ns) none (some P)
 have e2:=Ys (Vp 0 ns) (some (P + 1)) none
 rw [List.length_map] at c1 c2
 have f1:flat 1 (lvD ns)=true:=Z2 (Vp 0 ns)
 simp only [tlTb,lvD,wSs,wS,wE,wEs,wO,wInt,wSlc,newL,wCat,wlOf,wBin,wBlt,Yb,wRvl,Wm,List.set_cons_succ,List.set_cons_zero,List.getElem?_cons_zero,List.getElem?_cons_succ]
 repeat refine ⟨(by simp only [List.length_append,List.length_cons,List.length_nil,List.length_map,lim]; omega),?_⟩
 refine ix_tup P0 P1 fun x hx=>?_
 simp only [wCmp]
 refine ⟨rfl,rfl,?_⟩
 repeat refine ⟨(by simp only [List.length_append,List.length_cons,List.length_nil,List.length_map,lim]; omega),?_⟩
 refine tlTc_ok hr hl ?_ (by simp) q
 have pt:∀ d:D,flat 1 d=true→∀ a b,Al 1 a→Al 1 b→flat 2 (.lst (a ++ [d] ++ b))=true:=fun d hd a b ha hb=>Vm (Yi (Yi ha (Wc hd Xo)) hb)
 refine Yi (Yi ?_ ?_) ?_
 ·exact Wc (Vm (Yi b1 b2)) (Wc (pt _ f1 _ _ b1 b3) (Wc (pt _ ho _ _ b1 b2) Xo))
 ·exact Wc (pt _ (Vm (Vp 0 ns)) _ _ b1 b2) (Wc (Vm (Yi hd (Wc ho Xo))) (Wc (Vm (al_rev hd)) (Wc (Z2 hd) Xo)))
 ·exact Wc (pt _ (Z2 (Yi (Yi e1 (Wc rfl Xo)) e2)) _ _ b1 b2) (Wc (pt _ rfl _ _ b1 b2) Xo)
theorem kL_odd:Keeps nL_odd iL_odd spL_odd:=by
 rintro ds μ Q ⟨n,rfl,hb,h⟩
 have hb2:Yr (μ ++ [.dic [.inr [97]] [.int 1]]) n:=Vh hb
 simp only [iL_odd,nL_odd,Yd,topZ,wSs,wS,wE,wEs,newL,List.map_cons,List.map_nil,List.length_cons,List.length_nil,List.cons_append,List.nil_append,List.getElem?_cons_zero,List.getElem?_cons_succ]
 refine ⟨by simp [lim],by simp [lim],trivial,by simp [lim],by simp [lim],hb2,by decide,by decide,fun k b k0 k1=>?_⟩
 have hk:k=0∨k=1∨k=2∨k=3∨k=4∨k=5∨k=6∨k=7∨k=8:=by omega
 rcases hk with rfl | rfl | rfl | rfl | rfl | rfl | rfl | rfl | rfl <;> simp [wIdx,Yb,ixD] <;> exact h _ b (by first | exact .inl rfl | exact .inr rfl)
theorem kL_turned:Keeps nL_turned iL_turned spL_turned:=by
 rintro ds μ Q ⟨n,R,rfl,hb,hne,hR,hr,h⟩
 have hR0:0 < R.length:=List.length_pos_iff.mpr hne
 simp only [iL_turned,nL_turned,Yd,wSs,wS,wE,wEs,wBlt,lenOf,Yb,List.map_cons,List.map_nil,List.length_cons,List.length_nil,List.cons_append,List.nil_append,List.getElem?_cons_zero,List.getElem?_cons_succ,List.replicate,List.set_cons_succ,List.set_cons_zero,List.length_map,Option.map_some]
 refine ⟨hb,by omega,by omega,fun a b0 a0 a1=>?_⟩
 simp only [List.set_cons_succ,List.set_cons_zero,List.getElem?_cons_zero,List.getElem?_cons_succ]
 refine ix_lst a0 a1 fun r hrm=>?_
 obtain ⟨r1,r2,r3⟩:=hr r hrm
 have r0:0 < r.length:=List.length_pos_iff.mpr r1
 simp only [rowD,wBlt,lenOf,Yb,List.set_cons_succ,List.set_cons_zero,List.getElem?_cons_zero,List.getElem?_cons_succ,List.length_map,Option.map_some]
 refine ⟨Xj hb,by omega,by omega,fun w b1 w0 w1=>?_⟩
 simp only [List.set_cons_succ,List.set_cons_zero,List.getElem?_cons_zero,List.getElem?_cons_succ]
 refine ix_lst w0 w1 fun o ho=>?_
 obtain ⟨o1,o2⟩:=r3 o ho
 simp only [lvD,wBlt,lenOf,Yb,List.set_cons_succ,List.set_cons_zero,List.getElem?_cons_zero,List.getElem?_cons_succ,List.length_map,Option.map_some]
 refine ⟨Xj (Xj hb),by omega,by omega,fun p b2 p0 p1=>?_⟩
 simp only [wO,wE,wEs,wInt,wSlc,List.set_cons_succ,List.set_cons_zero,List.getElem?_cons_zero,List.getElem?_cons_succ]
 refine ix_tup p0 p1 fun x hx=>?_
 simp only [wBin]
 have c1:=Ym (o.map D.int) none (some p)
 have c2:=Ym (o.map D.int) (some (p + 1)) none
 have e1:=Ys (Vp 0 o) none (some p)
 have e2:=Ys (Vp 0 o) (some (p + 1)) none
 rw [List.length_map] at c1 c2
 repeat refine ⟨(by simp only [List.length_append,List.length_cons,List.length_nil,List.length_map,lim]; omega),?_⟩
 rw [bx_bx,bx_bx]
 exact tlTb_ok (Va2 fun r _=>Vm (Va2 fun o _=>Z2 (Vp 0 o))) (by simpa using hR) (Va2 fun o _=>Z2 (Vp 0 o)) (by rw [List.length_map]; omega) o2 p0 p1 (Z2 (Yi (Yi e1 (Wc rfl Xo)) e2)) fun Ts=>h _ Ts
theorem rows_ok {l:Ly} (hl:Ok4 l) {R:List (List Ly)} (h:Rows l R):∀ r∈R,∀ o∈r,Ok4 o:=by
 intro r hr
 obtain ⟨A,B,rfl⟩:=List.append_of_mem hr
 have h2:=h.pre (A.length + 1) (by omega) (by simp)
 have e:(A ++ r :: B).take (A.length + 1)=A ++ [r]:=by
  rw [show A ++ r :: B=(A ++ [r]) ++ B by simp,show A.length + 1=(A ++ [r]).length by simp,List.take_left']
  rfl
 rw [e] at h2
 exact h2.ok hl
theorem ok_rev {l:Ly} (h:Ok4 l):Ok4 l.reverse:=by
 obtain ⟨h1,h2,h3⟩:=h
 refine ⟨by simpa using h1,fun x hx=>h2 x (List.mem_reverse.mp hx),?_⟩
 match l,h1 with
 | [a,b,c],_=>simp at h3 ⊢; omega
 | [a,b,c,d],_=>simp at h3 ⊢; omega
theorem dic_stays {μ ν:Mem} {n:Nat} {b:Int} (hb:Yr μ n):dicB (bx (μ ++ [.dic [.inr [97]] [.int 1]]) n b ++ ν) μ.length=true:=by
 have hlt:n < μ.length:=by obtain ⟨b,e⟩:=hb; exact (List.getElem?_eq_some_iff.mp e).1
 unfold dicB
 rw [List.getElem?_append_left (by simp [bx])]
 unfold bx
 rw [List.getElem?_set_ne (by omega)]
 simp
theorem tlL_ok {Z:DEnds} {v0 v1:Option D} {n:Nat} {l:Ly} {R:List (List Ly)} {oth:D} {x6 x7:Option D} {μ:Mem} (hb:Yr μ n) (hok:Ok4 l) (hD:Done l R) (hR:R.length≤10) (h64:∀ r∈R,r.length < 64) (ho:flat 60 oth=true)
  (hZ:∀ x6 x7 μ',Z.nx [v0,v1,some (.loc n),some (lvD l),some (.lst (R.map rowD)),some oth,x6,x7] μ') :
  wSs tlL Z [v0,v1,some (.loc n),some (lvD l),some (.lst (R.map rowD)),some oth,x6,x7] μ:=by
 simp only [tlL,wSs,wS,wI,wE,wEs,List.set_cons_succ,List.set_cons_zero,List.getElem?_cons_zero,List.getElem?_cons_succ]
 refine ⟨n,rfl,hb,fun d b hd=>?_⟩
 have hb2:Yr (bx (μ ++ [.dic [.inr [97]] [.int 1]]) n b) n:=Xj (Vh hb)
 refine ⟨by simp [lim],?_⟩
 simp only [newL]
 refine ⟨n,R,rfl,hb2,hD.rows.ne,hR,fun r hr=>⟨hD.full r hr,h64 r hr,fun o hm=>?_⟩,fun b2 Ts hT hTl=>?_⟩
 ·rcases (rows_ok hok hD.rows r hr o hm).1 with z | z <;> omega
 rw [bx_bx]
 simp only [wCat,wlOf,newL,wSeq]
 refine ⟨by simp only [List.length_cons,List.length_nil,lim]; omega,?_⟩
 refine Ye (fun ds ρ μ'=>(∀ d∈ds,flat 60 d=true∨d = .loc μ.length)∧∃ x6 x7 ν,ρ=[v0,v1,some (.loc n),some (lvD l),some (.lst (R.map rowD)),some oth,x6,x7]∧μ'=bx (μ ++ [.dic [.inr [97]] [.int 1]]) n b2 ++ ν) ?_ ?_ _ _ _ ⟨?_,_,_,[],rfl,by simp⟩
 ·rintro d ds ρ μ1 N hN ⟨hds,x6,x7,ν,rfl,rfl⟩
  refine ⟨trivial,?_⟩
  simp only [Yg,List.set_cons_succ,List.set_cons_zero,List.getElem?_cons_zero,List.getElem?_cons_succ]
  have th:∀ ν,Th (bx (μ ++ [.dic [.inr [97]] [.int 1]]) n b2 ++ ν) d:=fun ν=>(hds d (by simp)).imp id fun e=>⟨_,e,dic_stays hb⟩
  refine ⟨d,l,rfl,hok,th _,fun R2 ν2 hD2=>?_⟩
  have:=hD.uniq hD2
  subst this
  simp only [wT,wE,wEs,Wx,tyOf,isTy,wBl,List.set_cons_succ,List.set_cons_zero,List.getElem?_cons_zero,List.getElem?_cons_succ,beq_self_eq_true,Bool.true_or,Bool.not_true,Bool.false_eq_true,if_false]
  rw [List.append_assoc]
  refine ⟨d,R,rfl,th _,Vaq rfl rfl ?_⟩
  simp only [eqD,beq_self_eq_true,Bool.not_true,Bool.false_eq_true,if_false]
  exact hN _ _ ⟨fun e he=>hds e (by simp [he]),_,_,_,rfl,rfl⟩
 ·rintro ρ μ1 ⟨-,x6,x7,ν,rfl,rfl⟩
  refine ⟨trivial,?_⟩
  simp only [wT,wE,wEs,List.getElem?_cons_zero,List.getElem?_cons_succ]
  refine ⟨l,rfl,hok,fun R3 ν3 hD3 _ _=>?_⟩
  have:=hD.uniq hD3
  subst this
  refine Vaq (Xk 57 R) (Xk 57 R) ?_
  rw [rows_eq]
  simp only [wBl,Bool.not_true,Bool.false_eq_true,if_false]
  exact hZ _ _ _
 ·intro e he
  simp only [List.cons_append,List.nil_append,List.mem_cons] at he
  rcases he with rfl | rfl | rfl | he
  ·exact .inl (Xk 57 R)
  ·exact .inl ho
  ·rcases hd with hd | hd
   ·exact .inl hd
   ·exact .inr hd
  ·exact .inl (hT e he)
theorem k_law:Keeps n_law i_law spLaw:=by
 rintro ds μ Q ⟨ns,rfl,hl,h⟩
 have hlo:(ns.length:Int)≤63:=by omega
 simp only [i_law,n_law,Yd,topZ,wSs,wS,wE,wEs,wI,newL,wSeq,wBlt,lenOf,Yb,wRng,Wz,List.map_cons,List.map_nil,List.length_cons,List.length_nil,List.cons_append,List.nil_append,List.getElem?_cons_zero,List.length_map,Option.map_some]
 refine ⟨?_,?_,?_⟩
 ·simp only [lim]; split <;> split <;> omega
 ·split <;> split <;> omega
 refine Ye (fun ds ρ μ'=>(∀ d∈ds,∃ i:Int,d = .int i∧0≤i)∧∃ a b c d e f g,ρ=[some (.ro (ns.map D.int)),a,b,c,d,e,f,g]) ?_ ?_ _ _ _ ⟨?_,none,none,none,none,none,none,none,rfl⟩
 ·rintro d ds ρ μ1 N hN ⟨hd,a1,a2,a3,a4,a5,a6,a7,rfl⟩
  obtain ⟨k,rfl,k0⟩:=hd d (by simp)
  have nx:∀ ρ μ,(∃ a b c d e f g,ρ=[some (.ro (ns.map D.int)),a,b,c,d,e,f,g])→N ρ μ:=fun ρ μ q=>hN ρ μ ⟨fun d hd'=>hd d (by simp [hd']),q⟩
  refine ⟨trivial,?_⟩
  simp only [Yg,List.set_cons_succ,List.set_cons_zero,List.getElem?_cons_zero,List.getElem?_cons_succ]
  refine ⟨ns,rfl,by omega,k0,fun b0=>?_⟩
  simp only [List.set_cons_succ,List.set_cons_zero,List.getElem?_cons_zero,List.getElem?_cons_succ]
  refine ⟨Vaa,by decide,by decide,fun t b1 t0 t1=>?_⟩
  simp only [wBin]
  refine ⟨_,_,_,rfl,Xj Vaa,by omega,by decide,by decide,fun l b2 c1 hok _=>?_⟩
  simp only [List.set_cons_succ,List.set_cons_zero,List.getElem?_cons_zero,List.getElem?_cons_succ]
  refine ⟨l,rfl,hok,fun R ν1 hD hR h64=>?_⟩
  simp only [wRvl,lvD,List.set_cons_succ,List.set_cons_zero,List.getElem?_cons_zero,List.getElem?_cons_succ]
  refine ⟨l.reverse,by simp [lvD],ok_rev hok,fun R' ν2 hD' _ _=>?_⟩
  simp only [List.set_cons_succ,List.set_cons_zero]
  refine tlL_ok ?_ hok hD hR h64 (Xk 57 R') fun _ _ _=>nx _ _ ⟨_,_,_,_,_,_,_,rfl⟩
  exact Vh (Vh (Vh (Xj (Xj Vaa))))
 ·rintro ρ μ1 ⟨-,a,b,c,d,e,f,g,rfl⟩
  exact ⟨trivial,h _⟩
 ·intro d hd
  obtain ⟨i,rfl,h0,_⟩:=rangeL_mem hd
  exact ⟨i,rfl,h0⟩
end DW.K66
end
namespace DW.K66
open PySem L2 DW DW.K03 DW.LYR
noncomputable def top (i:Nat):Stmt:=PySem.Challenge.pw_pourwright_k66_are_layers.main.body.getD i (.Pass ⟨0,0,0,0⟩)
noncomputable def blts:List Str:=["isinstance","int","bool","tuple","len","list","range","min","sum","sorted","all","divmod","reversed","max"]
noncomputable abbrev s_is_whole:Stmt:=top 1
noncomputable def p_is_whole:List Str:=["thing"]
theorem Ya4:FnScope n_is_whole p_is_whole (Xa s_is_whole):=⟨rfl,rfl,rfl,by decide +kernel,rfl,by decide +kernel,by decide +kernel⟩
theorem m_is_whole:mSs (Ctx.of n_is_whole (Xa s_is_whole).names blts) i_is_whole (Xb s_is_whole)=true:=by decide +kernel
theorem Yba:∀ ds μ Q,sp_is_whole ds μ Q→ds.length=p_is_whole.length:=by
 intro ds μ Q h
 unfold sp_is_whole at h
 split at h <;> first | rfl | exact h.elim
noncomputable abbrev s_source_choices:Stmt:=top 12
noncomputable def p_source_choices:List Str:=["drives"]
theorem Yy:FnScope n_source_choices p_source_choices (Xa s_source_choices):=⟨rfl,rfl,rfl,by decide +kernel,rfl,by decide +kernel,by decide +kernel⟩
theorem V3:mSs (Ctx.of n_source_choices (Xa s_source_choices).names blts) i_source_choices (Xb s_source_choices)=true:=by decide +kernel
theorem W0:∀ ds μ Q,sp_source_choices ds μ Q→ds.length=p_source_choices.length:=by
 intro ds μ Q h
 unfold sp_source_choices at h
 obtain ⟨_,rfl,_⟩:=h; rfl
noncomputable abbrev s_singles:Stmt:=top 14
noncomputable def p_singles:List Str:=["layer"]
theorem sc_singles:FnScope n_singles p_singles (Xa s_singles):=⟨rfl,rfl,rfl,by decide +kernel,rfl,by decide +kernel,by decide +kernel⟩
theorem m_singles:mSs (Ctx.of n_singles (Xa s_singles).names blts) i_singles (Xb s_singles)=true:=by decide +kernel
theorem ar_singles:∀ ds μ Q,sp_singles ds μ Q→ds.length=p_singles.length:=by
 intro ds μ Q h
 unfold sp_singles at h
 obtain ⟨_,_,rfl,_⟩:=h; rfl
noncomputable abbrev sL_box:Stmt:=top 19
noncomputable def pL_box:List Str:=["script","k"]
theorem scL_box:FnScope nL_box pL_box (Xa sL_box):=⟨rfl,rfl,rfl,by decide +kernel,rfl,by decide +kernel,by decide +kernel⟩
theorem mL_box:mSs (Ctx.of nL_box (Xa sL_box).names blts) iL_box (Xb sL_box)=true:=by decide +kernel
theorem arL_box:∀ ds μ Q,spL_box ds μ Q→ds.length=pL_box.length:=by
 intro ds μ Q h
 unfold spL_box at h
 split at h <;> first | rfl | exact h.elim
noncomputable abbrev sL_take:Stmt:=top 20
noncomputable def pL_take:List Str:=["box","many"]
theorem scL_take:FnScope nL_take pL_take (Xa sL_take):=⟨rfl,rfl,rfl,by decide +kernel,rfl,by decide +kernel,by decide +kernel⟩
theorem mL_take:mSs (Ctx.of nL_take (Xa sL_take).names blts) iL_take (Xb sL_take)=true:=by decide +kernel
theorem arL_take:∀ ds μ Q,spL_take ds μ Q→ds.length=pL_take.length:=by
 intro ds μ Q h
 unfold spL_take at h
 split at h <;> first | rfl | exact h.elim
noncomputable abbrev sL_whole:Stmt:=top 21
noncomputable def pL_whole:List Str:=["thing"]
theorem scL_whole:FnScope nL_whole pL_whole (Xa sL_whole):=⟨rfl,rfl,rfl,by decide +kernel,rfl,by decide +kernel,by decide +kernel⟩
theorem mL_whole:mSs (Ctx.of nL_whole (Xa sL_whole).names blts) iL_whole (Xb sL_whole)=true:=by decide +kernel
theorem arL_whole:∀ ds μ Q,spL_whole ds μ Q→ds.length=pL_whole.length:=by
 intro ds μ Q h
 unfold spL_whole at h
 split at h <;> first | rfl | exact h.elim
noncomputable abbrev sL_ways:Stmt:=top 24
noncomputable def pL_ways:List Str:=["drives"]
theorem scL_ways:FnScope nL_ways pL_ways (Xa sL_ways):=⟨rfl,rfl,rfl,by decide +kernel,rfl,by decide +kernel,by decide +kernel⟩
theorem mL_ways:mSs (Ctx.of nL_ways (Xa sL_ways).names blts) iL_ways (Xb sL_ways)=true:=by decide +kernel
theorem arL_ways:∀ ds μ Q,spL_ways ds μ Q→ds.length=pL_ways.length:=by
 intro ds μ Q h
 unfold spL_ways at h
 obtain ⟨_,rfl,_⟩:=h; rfl
noncomputable abbrev sL_led:Stmt:=top 26
noncomputable def pL_led:List Str:=["layout","phase"]
theorem scL_led:FnScope nL_led pL_led (Xa sL_led):=⟨rfl,rfl,rfl,by decide +kernel,rfl,by decide +kernel,by decide +kernel⟩
theorem mL_led:mSs (Ctx.of nL_led (Xa sL_led).names blts) iL_led (Xb sL_led)=true:=by decide +kernel
theorem arL_led:∀ ds μ Q,spL_led ds μ Q→ds.length=pL_led.length:=by
 intro ds μ Q h
 unfold spL_led at h
 obtain ⟨_,_,_,_,rfl,_⟩:=h; rfl
noncomputable abbrev s_is_below:Stmt:=top 6
noncomputable def p_is_below:List Str:=["thing","many"]
theorem Wa4:FnScope n_is_below p_is_below (Xa s_is_below):=⟨rfl,rfl,rfl,by decide +kernel,rfl,by decide +kernel,by decide +kernel⟩
theorem m_is_below:mSs (Ctx.of n_is_below (Xa s_is_below).names blts) i_is_below (Xb s_is_below)=true:=by decide +kernel
theorem Wba:∀ ds μ Q,sp_is_below ds μ Q→ds.length=p_is_below.length:=by
 intro ds μ Q h
 unfold sp_is_below at h
 split at h <;> first | rfl | exact h.elim
noncomputable abbrev s_phases_of:Stmt:=top 13
noncomputable def p_phases_of:List Str:=["layout"]
theorem Xau:FnScope n_phases_of p_phases_of (Xa s_phases_of):=⟨rfl,rfl,rfl,by decide +kernel,rfl,by decide +kernel,by decide +kernel⟩
theorem Wa6:mSs (Ctx.of n_phases_of (Xa s_phases_of).names blts) i_phases_of (Xb s_phases_of)=true:=by decide +kernel
theorem Wa2:∀ ds μ Q,sp_phases_of ds μ Q→ds.length=p_phases_of.length:=by
 intro ds μ Q h
 unfold sp_phases_of at h
 obtain ⟨_,rfl,_⟩:=h; rfl
noncomputable abbrev sL_odd:Stmt:=top 22
noncomputable def pL_odd:List Str:=["box"]
theorem scL_odd:FnScope nL_odd pL_odd (Xa sL_odd):=⟨rfl,rfl,rfl,by decide +kernel,rfl,by decide +kernel,by decide +kernel⟩
theorem mL_odd:mSs (Ctx.of nL_odd (Xa sL_odd).names blts) iL_odd (Xb sL_odd)=true:=by decide +kernel
theorem arL_odd:∀ ds μ Q,spL_odd ds μ Q→ds.length=pL_odd.length:=by
 intro ds μ Q h
 unfold spL_odd at h
 obtain ⟨_,rfl,_⟩:=h; rfl
noncomputable abbrev sL_layout:Stmt:=top 23
noncomputable def pL_layout:List Str:=["box","drives","most"]
theorem scL_layout:FnScope nL_layout pL_layout (Xa sL_layout):=⟨rfl,rfl,rfl,by decide +kernel,rfl,by decide +kernel,by decide +kernel⟩
theorem mL_layout:mSs (Ctx.of nL_layout (Xa sL_layout).names blts) iL_layout (Xb sL_layout)=true:=by decide +kernel
theorem arL_layout:∀ ds μ Q,spL_layout ds μ Q→ds.length=pL_layout.length:=by
 intro ds μ Q h
 unfold spL_layout at h
 obtain ⟨_,_,_,rfl,_⟩:=h; rfl
noncomputable abbrev sL_phases:Stmt:=top 25
noncomputable def pL_phases:List Str:=["layout"]
theorem scL_phases:FnScope nL_phases pL_phases (Xa sL_phases):=⟨rfl,rfl,rfl,by decide +kernel,rfl,by decide +kernel,by decide +kernel⟩
theorem mL_phases:mSs (Ctx.of nL_phases (Xa sL_phases).names blts) iL_phases (Xb sL_phases)=true:=by decide +kernel
theorem arL_phases:∀ ds μ Q,spL_phases ds μ Q→ds.length=pL_phases.length:=by
 intro ds μ Q h
 unfold spL_phases at h
 obtain ⟨_,rfl,_⟩:=h; rfl
noncomputable abbrev sL_turned:Stmt:=top 28
noncomputable def pL_turned:List Str:=["box","rows"]
theorem scL_turned:FnScope nL_turned pL_turned (Xa sL_turned):=⟨rfl,rfl,rfl,by decide +kernel,rfl,by decide +kernel,by decide +kernel⟩
theorem mL_turned:mSs (Ctx.of nL_turned (Xa sL_turned).names blts) iL_turned (Xb sL_turned)=true:=by decide +kernel
theorem arL_turned:∀ ds μ Q,spL_turned ds μ Q→ds.length=pL_turned.length:=by
 intro ds μ Q h
 unfold spL_turned at h
 obtain ⟨_,_,rfl,_⟩:=h; rfl
noncomputable abbrev sL_is:Stmt:=top 29
noncomputable def pL_is:List Str:=["thing","rows"]
theorem scL_is:FnScope nL_is pL_is (Xa sL_is):=⟨rfl,rfl,rfl,by decide +kernel,rfl,by decide +kernel,by decide +kernel⟩
theorem mL_is:mSs (Ctx.of nL_is (Xa sL_is).names blts) iL_is (Xb sL_is)=true:=by decide +kernel
theorem arL_is:∀ ds μ Q,spL_is ds μ Q→ds.length=pL_is.length:=by
 intro ds μ Q h
 unfold spL_is at h
 obtain ⟨_,_,rfl,_⟩:=h; rfl
noncomputable abbrev s_are_sources:Stmt:=top 8
noncomputable def p_are_sources:List Str:=["thing","layout","times"]
theorem Vac:FnScope n_are_sources p_are_sources (Xa s_are_sources):=⟨rfl,rfl,rfl,by decide +kernel,rfl,by decide +kernel,by decide +kernel⟩
theorem Xal:mSs (Ctx.of n_are_sources (Xa s_are_sources).names blts) i_are_sources (Xb s_are_sources)=true:=by decide +kernel
theorem Vad:∀ ds μ Q,sp_are_sources ds μ Q→ds.length=p_are_sources.length:=by
 intro ds μ Q h
 unfold sp_are_sources at h
 obtain ⟨_,_,_,rfl,_⟩:=h; rfl
noncomputable abbrev sL_layers:Stmt:=top 27
noncomputable def pL_layers:List Str:=["layout"]
theorem scL_layers:FnScope nL_layers pL_layers (Xa sL_layers):=⟨rfl,rfl,rfl,by decide +kernel,rfl,by decide +kernel,by decide +kernel⟩
theorem mL_layers:mSs (Ctx.of nL_layers (Xa sL_layers).names blts) iL_layers (Xb sL_layers)=true:=by decide +kernel
theorem arL_layers:∀ ds μ Q,spL_layers ds μ Q→ds.length=pL_layers.length:=by
 intro ds μ Q h
 unfold spL_layers at h
 obtain ⟨_,rfl,_⟩:=h; rfl
noncomputable abbrev s_is_phase:Stmt:=top 9
noncomputable def p_is_phase:List Str:=["thing","layout"]
theorem Xa4:FnScope n_is_phase p_is_phase (Xa s_is_phase):=⟨rfl,rfl,rfl,by decide +kernel,rfl,by decide +kernel,by decide +kernel⟩
theorem m_is_phase:mSs (Ctx.of n_is_phase (Xa s_is_phase).names blts) i_is_phase (Xb s_is_phase)=true:=by decide +kernel
theorem Xba:∀ ds μ Q,sp_is_phase ds μ Q→ds.length=p_is_phase.length:=by
 intro ds μ Q h
 unfold sp_is_phase at h
 obtain ⟨_,_,_,_,rfl,_⟩:=h; rfl
noncomputable abbrev s_led:Stmt:=top 10
noncomputable def p_led:List Str:=["layout","phase"]
theorem sc_led:FnScope n_led p_led (Xa s_led):=⟨rfl,rfl,rfl,by decide +kernel,rfl,by decide +kernel,by decide +kernel⟩
theorem m_led:mSs (Ctx.of n_led (Xa s_led).names blts) i_led (Xb s_led)=true:=by decide +kernel
theorem ar_led:∀ ds μ Q,sp_led ds μ Q→ds.length=p_led.length:=by
 intro ds μ Q h
 unfold sp_led at h
 obtain ⟨_,_,_,_,rfl,_⟩:=h; rfl
noncomputable abbrev s_next_layer:Stmt:=top 15
noncomputable def p_next_layer:List Str:=["layer","seen"]
theorem Zak:FnScope n_next_layer p_next_layer (Xa s_next_layer):=⟨rfl,rfl,rfl,by decide +kernel,rfl,by decide +kernel,by decide +kernel⟩
theorem Yaw:mSs (Ctx.of n_next_layer (Xa s_next_layer).names blts) i_next_layer (Xb s_next_layer)=true:=by decide +kernel
theorem Zaq:∀ ds μ Q,sp_next_layer ds μ Q→ds.length=p_next_layer.length:=by
 intro ds μ Q h
 unfold sp_next_layer at h
 obtain ⟨_,_,_,_,_,rfl,_⟩:=h; rfl
noncomputable abbrev s_layers:Stmt:=top 16
noncomputable def p_layers:List Str:=["layout"]
theorem sc_layers:FnScope n_layers p_layers (Xa s_layers):=⟨rfl,rfl,rfl,by decide +kernel,rfl,by decide +kernel,by decide +kernel⟩
theorem m_layers:mSs (Ctx.of n_layers (Xa s_layers).names blts) i_layers (Xb s_layers)=true:=by decide +kernel
theorem ar_layers:∀ ds μ Q,sp_layers ds μ Q→ds.length=p_layers.length:=by
 intro ds μ Q h
 unfold sp_layers at h
 obtain ⟨_,rfl,_⟩:=h; rfl
noncomputable abbrev s_are_layers:Stmt:=top 17
noncomputable def p_are_layers:List Str:=["thing","layout"]
theorem Yak:FnScope n_are_layers p_are_layers (Xa s_are_layers):=⟨rfl,rfl,rfl,by decide +kernel,rfl,by decide +kernel,by decide +kernel⟩
theorem Xaw:mSs (Ctx.of n_are_layers (Xa s_are_layers).names blts) i_are_layers (Xb s_are_layers)=true:=by decide +kernel
theorem Yaq:∀ ds μ Q,sp_are_layers ds μ Q→ds.length=p_are_layers.length:=by
 intro ds μ Q h
 unfold sp_are_layers at h
 obtain ⟨_,_,rfl,_⟩:=h; rfl
noncomputable abbrev s_law:Stmt:=top 30
noncomputable def p_law:List Str:=["script"]
theorem sc_law:FnScope n_law p_law (Xa s_law):=⟨rfl,rfl,rfl,by decide +kernel,rfl,by decide +kernel,by decide +kernel⟩
theorem m_law:mSs (Ctx.of n_law (Xa s_law).names blts) i_law (Xb s_law)=true:=by decide +kernel
theorem ar_law:∀ ds μ Q,spLaw ds μ Q→ds.length=p_law.length:=by
 intro ds μ Q h
 unfold spLaw at h
 obtain ⟨_,rfl,_⟩:=h; rfl
set_option maxHeartbeats 0 in
theorem law_fn {T:Top} {h:Heap} {f:Addr} {fd:FuncData} (X:T.K.In h) (G:h.Ns mainGlobals T.mg) (fr:FreeAt T.K blts) (d_is_whole:DefAt T.K "is_whole" s_is_whole) (d_source_choices:DefAt T.K "source_choices" s_source_choices) (d_singles:DefAt T.K "singles" s_singles) (dL_box:DefAt T.K "_law_box" sL_box) (dL_take:DefAt T.K "_law_take" sL_take) (dL_whole:DefAt T.K "_law_whole" sL_whole) (dL_ways:DefAt T.K "_law_ways" sL_ways) (dL_led:DefAt T.K "_law_led" sL_led) (d_is_below:DefAt T.K "is_below" s_is_below) (d_phases_of:DefAt T.K "phases_of" s_phases_of) (dL_odd:DefAt T.K "_law_odd" sL_odd) (dL_layout:DefAt T.K "_law_layout" sL_layout) (dL_phases:DefAt T.K "_law_phases" sL_phases) (dL_turned:DefAt T.K "_law_turned" sL_turned) (dL_is:DefAt T.K "_law_is" sL_is) (d_are_sources:DefAt T.K "are_sources" s_are_sources) (dL_layers:DefAt T.K "_law_layers" sL_layers) (d_is_phase:DefAt T.K "is_phase" s_is_phase) (d_led:DefAt T.K "led" s_led) (d_next_layer:DefAt T.K "next_layer" s_next_layer) (d_layers:DefAt T.K "layers" s_layers) (d_are_layers:DefAt T.K "are_layers" s_are_layers) (F:Fun T.K "law" "law" s_law f fd):FnOk T.P T.w T.K T.mg T.base (CXE T.P T.w) 25 f fd p_law (low T.K spLaw):=by
 have hb:=free_of X G fr
 have o_is_whole:okSs (FnTop T 0) (Ve T) i_is_whole:=by
  repeat' first | exact trivial | refine And.intro ?_ ?_ | assumption | exact rfl
 have u_is_whole:=Vk d_is_whole X G Ya4 m_is_whole hb (fun _ _ _ _ _ _=>len1 fun _=>rfl) Yba k_is_whole o_is_whole
 have o_source_choices:okSs (FnTop T 0) (Ve T) i_source_choices:=by
  repeat' first | exact trivial | refine And.intro ?_ ?_ | assumption | exact rfl
 have u_source_choices:=Vk d_source_choices X G Yy V3 hb (fun _ _ _ _ _ _=>len1 fun _=>rfl) W0 k_source_choices o_source_choices
 have o_singles:okSs (FnTop T 0) (Ve T) i_singles:=by
  repeat' first | exact trivial | refine And.intro ?_ ?_ | assumption | exact rfl
 have u_singles:=Vk d_singles X G sc_singles m_singles hb (fun _ _ _ _ _ _=>len1 fun _=>rfl) ar_singles k_singles o_singles
 have oL_box:okSs (FnTop T 0) (Ve T) iL_box:=by
  repeat' first | exact trivial | refine And.intro ?_ ?_ | assumption | exact rfl
 have uL_box:=Vk dL_box X G scL_box mL_box hb (fun _ _ _ _ _ _=>len2 fun _ _=>rfl) arL_box kL_box oL_box
 have oL_take:okSs (FnTop T 0) (Ve T) iL_take:=by
  repeat' first | exact trivial | refine And.intro ?_ ?_ | assumption | exact rfl
 have uL_take:=Vk dL_take X G scL_take mL_take hb (fun _ _ _ _ _ _=>len2 fun _ _=>rfl) arL_take kL_take oL_take
 have oL_whole:okSs (FnTop T 0) (Ve T) iL_whole:=by
  repeat' first | exact trivial | refine And.intro ?_ ?_ | assumption | exact rfl
 have uL_whole:=Vk dL_whole X G scL_whole mL_whole hb (fun _ _ _ _ _ _=>len1 fun _=>rfl) arL_whole kL_whole oL_whole
 have oL_ways:okSs (FnTop T 0) (Ve T) iL_ways:=by
  repeat' first | exact trivial | refine And.intro ?_ ?_ | assumption | exact rfl
 have uL_ways:=Vk dL_ways X G scL_ways mL_ways hb (fun _ _ _ _ _ _=>len1 fun _=>rfl) arL_ways kL_ways oL_ways
 have oL_led:okSs (FnTop T 0) (Ve T) iL_led:=by
  repeat' first | exact trivial | refine And.intro ?_ ?_ | assumption | exact rfl
 have uL_led:=Vk dL_led X G scL_led mL_led hb (fun _ _ _ _ _ _=>len2 fun _ _=>rfl) arL_led kL_led oL_led
 have u_is_whole_is_below:=u_is_whole.up (show 1≤1 by decide)
 have o_is_below:okSs (FnTop T 1) (Ve T) i_is_below:=by
  repeat' first | exact trivial | refine And.intro ?_ ?_ | assumption | exact rfl
 have u_is_below:=Vk d_is_below X G Wa4 m_is_below hb (fun _ _ _ _ _ _=>len2 fun _ _=>rfl) Wba k_is_below o_is_below
 have u_source_choices_phases_of:=u_source_choices.up (show 1≤1 by decide)
 have o_phases_of:okSs (FnTop T 1) (Ve T) i_phases_of:=by
  repeat' first | exact trivial | refine And.intro ?_ ?_ | assumption | exact rfl
 have u_phases_of:=Vk d_phases_of X G Xau Wa6 hb (fun _ _ _ _ _ _=>len1 fun _=>rfl) Wa2 k_phases_of o_phases_of
 have uL_takeL_odd:=uL_take.up (show 1≤1 by decide)
 have oL_odd:okSs (FnTop T 1) (Ve T) iL_odd:=by
  repeat' first | exact trivial | refine And.intro ?_ ?_ | assumption | exact rfl
 have uL_odd:=Vk dL_odd X G scL_odd mL_odd hb (fun _ _ _ _ _ _=>len1 fun _=>rfl) arL_odd kL_odd oL_odd
 have uL_takeL_layout:=uL_take.up (show 1≤1 by decide)
 have oL_layout:okSs (FnTop T 1) (Ve T) iL_layout:=by
  repeat' first | exact trivial | refine And.intro ?_ ?_ | assumption | exact rfl
 have uL_layout:=Vk dL_layout X G scL_layout mL_layout hb (fun _ _ _ _ _ _=>len3 fun _ _ _=>rfl) arL_layout kL_layout oL_layout
 have uL_waysL_phases:=uL_ways.up (show 1≤1 by decide)
 have oL_phases:okSs (FnTop T 1) (Ve T) iL_phases:=by
  repeat' first | exact trivial | refine And.intro ?_ ?_ | assumption | exact rfl
 have uL_phases:=Vk dL_phases X G scL_phases mL_phases hb (fun _ _ _ _ _ _=>len1 fun _=>rfl) arL_phases kL_phases oL_phases
 have uL_takeL_turned:=uL_take.up (show 1≤1 by decide)
 have oL_turned:okSs (FnTop T 1) (Ve T) iL_turned:=by
  repeat' first | exact trivial | refine And.intro ?_ ?_ | assumption | exact rfl
 have uL_turned:=Vk dL_turned X G scL_turned mL_turned hb (fun _ _ _ _ _ _=>len2 fun _ _=>rfl) arL_turned kL_turned oL_turned
 have uL_wholeL_is:=uL_whole.up (show 1≤1 by decide)
 have oL_is:okSs (FnTop T 1) (Ve T) iL_is:=by
  repeat' first | exact trivial | refine And.intro ?_ ?_ | assumption | exact rfl
 have uL_is:=Vk dL_is X G scL_is mL_is hb (fun _ _ _ _ _ _=>len2 fun _ _=>rfl) arL_is kL_is oL_is
 have u_is_below_are_sources:=u_is_below.up (show 2≤2 by decide)
 have o_are_sources:okSs (FnTop T 2) (Ve T) i_are_sources:=by
  repeat' first | exact trivial | refine And.intro ?_ ?_ | assumption | exact rfl
 have u_are_sources:=Vk d_are_sources X G Vac Xal hb (fun _ _ _ _ _ _=>len3 fun _ _ _=>rfl) Vad k_are_sources o_are_sources
 have uL_phasesL_layers:=uL_phases.up (show 2≤2 by decide)
 have uL_ledL_layers:=uL_led.up (show 1≤2 by decide)
 have oL_layers:okSs (FnTop T 2) (Ve T) iL_layers:=by
  repeat' first | exact trivial | refine And.intro ?_ ?_ | assumption | exact rfl
 have uL_layers:=Vk dL_layers X G scL_layers mL_layers hb (fun _ _ _ _ _ _=>len1 fun _=>rfl) arL_layers kL_layers oL_layers
 have u_is_below_is_phase:=u_is_below.up (show 2≤3 by decide)
 have u_is_whole_is_phase:=u_is_whole.up (show 1≤3 by decide)
 have u_are_sources_is_phase:=u_are_sources.up (show 3≤3 by decide)
 have o_is_phase:okSs (FnTop T 3) (Ve T) i_is_phase:=by
  repeat' first | exact trivial | refine And.intro ?_ ?_ | assumption | exact rfl
 have u_is_phase:=Vk d_is_phase X G Xa4 m_is_phase hb (fun _ _ _ _ _ _=>len2 fun _ _=>rfl) Xba k_is_phase o_is_phase
 have u_is_phase_led:=u_is_phase.up (show 4≤4 by decide)
 have o_led:okSs (FnTop T 4) (Ve T) i_led:=by
  repeat' first | exact trivial | refine And.intro ?_ ?_ | assumption | exact rfl
 have u_led:=Vk d_led X G sc_led m_led hb (fun _ _ _ _ _ _=>len2 fun _ _=>rfl) ar_led k_led o_led
 have u_phases_of_next_layer:=u_phases_of.up (show 2≤5 by decide)
 have u_led_next_layer:=u_led.up (show 5≤5 by decide)
 have o_next_layer:okSs (FnTop T 5) (Ve T) i_next_layer:=by
  repeat' first | exact trivial | refine And.intro ?_ ?_ | assumption | exact rfl
 have u_next_layer:=Vk d_next_layer X G Zak Yaw hb (fun _ _ _ _ _ _=>len2 fun _ _=>rfl) Zaq k_next_layer o_next_layer
 have u_singles_layers:=u_singles.up (show 1≤6 by decide)
 have u_next_layer_layers:=u_next_layer.up (show 6≤6 by decide)
 have o_layers:okSs (FnTop T 6) (Ve T) i_layers:=by
  repeat' first | exact trivial | refine And.intro ?_ ?_ | assumption | exact rfl
 have u_layers:=Vk d_layers X G sc_layers m_layers hb (fun _ _ _ _ _ _=>len1 fun _=>rfl) ar_layers k_layers o_layers
 have u_layers_are_layers:=u_layers.up (show 7≤7 by decide)
 have u_is_whole_are_layers:=u_is_whole.up (show 1≤7 by decide)
 have o_are_layers:okSs (FnTop T 7) (Ve T) i_are_layers:=by
  repeat' first | exact trivial | refine And.intro ?_ ?_ | assumption | exact rfl
 have u_are_layers:=Vk d_are_layers X G Yak Xaw hb (fun _ _ _ _ _ _=>len2 fun _ _=>rfl) Yaq k_are_layers o_are_layers
 have uL_box_law:=uL_box.up (show 1≤8 by decide)
 have uL_layout_law:=uL_layout.up (show 2≤8 by decide)
 have uL_take_law:=uL_take.up (show 1≤8 by decide)
 have uL_layers_law:=uL_layers.up (show 3≤8 by decide)
 have uL_odd_law:=uL_odd.up (show 2≤8 by decide)
 have uL_turned_law:=uL_turned.up (show 2≤8 by decide)
 have u_are_layers_law:=u_are_layers.up (show 8≤8 by decide)
 have uL_is_law:=uL_is.up (show 2≤8 by decide)
 have o_law:okSs (FnTop T 8) (Ve T) i_law:=by
  repeat' first | exact trivial | refine And.intro ?_ ?_ | assumption | exact rfl
 exact fn_okF F sc_law m_law hb o_law ar_law k_law
end DW.K66
open PySem PySem.W PyProof.Rows
set_option maxRecDepth 100000 in
set_option maxHeartbeats 0 in
theorem PySem.Challenge.cw_pourwright_k66_are_layers_holds : PySem.Challenge.rw_pourwright_k66_are_layers.Holds := by
 w_on; o_law; k_head; (case hw=>w_witness2)
 k_fill
 refine DW.law_walk (l:=PySem.Challenge.rw_pourwright_k66_are_layers) (k:=25) ?I rfl (by decide) rfl (fun w h Y=>PySem.W.kIn_of Y) ?F
 case I=>kernel_rfl
 case F =>
  intro w mg fa h KX G hmg
  have d_is_whole:DW.DefAt (L2.KOf KX) "is_whole" DW.K66.s_is_whole:=by
   dsimp only [L2.KOf]
   refine' DW.defAt_mk ?a ?l ?c ?k
   (case a=>k_is); (case l=>k_is); (case c=>k_is); (case k=>k_is)
  have d_source_choices:DW.DefAt (L2.KOf KX) "source_choices" DW.K66.s_source_choices:=by
   dsimp only [L2.KOf]
   refine' DW.defAt_mk ?a ?l ?c ?k
   (case a=>k_is); (case l=>k_is); (case c=>k_is); (case k=>k_is)
  have d_singles:DW.DefAt (L2.KOf KX) "singles" DW.K66.s_singles:=by
   dsimp only [L2.KOf]
   refine' DW.defAt_mk ?a ?l ?c ?k
   (case a=>k_is); (case l=>k_is); (case c=>k_is); (case k=>k_is)
  have dL_box:DW.DefAt (L2.KOf KX) "_law_box" DW.K66.sL_box:=by
   dsimp only [L2.KOf]
   refine' DW.defAt_mk ?a ?l ?c ?k
   (case a=>k_is); (case l=>k_is); (case c=>k_is); (case k=>k_is)
  have dL_take:DW.DefAt (L2.KOf KX) "_law_take" DW.K66.sL_take:=by
   dsimp only [L2.KOf]
   refine' DW.defAt_mk ?a ?l ?c ?k
   (case a=>k_is); (case l=>k_is); (case c=>k_is); (case k=>k_is)
  have dL_whole:DW.DefAt (L2.KOf KX) "_law_whole" DW.K66.sL_whole:=by
   dsimp only [L2.KOf]
   refine' DW.defAt_mk ?a ?l ?c ?k
   (case a=>k_is); (case l=>k_is); (case c=>k_is); (case k=>k_is)
  have dL_ways:DW.DefAt (L2.KOf KX) "_law_ways" DW.K66.sL_ways:=by
   dsimp only [L2.KOf]
   refine' DW.defAt_mk ?a ?l ?c ?k
   (case a=>k_is); (case l=>k_is); (case c=>k_is); (case k=>k_is)
  have dL_led:DW.DefAt (L2.KOf KX) "_law_led" DW.K66.sL_led:=by
   dsimp only [L2.KOf]
   refine' DW.defAt_mk ?a ?l ?c ?k
   (case a=>k_is); (case l=>k_is); (case c=>k_is); (case k=>k_is)
  have d_is_below:DW.DefAt (L2.KOf KX) "is_below" DW.K66.s_is_below:=by
   dsimp only [L2.KOf]
   refine' DW.defAt_mk ?a ?l ?c ?k
   (case a=>k_is); (case l=>k_is); (case c=>k_is); (case k=>k_is)
  have d_phases_of:DW.DefAt (L2.KOf KX) "phases_of" DW.K66.s_phases_of:=by
   dsimp only [L2.KOf]
   refine' DW.defAt_mk ?a ?l ?c ?k
   (case a=>k_is); (case l=>k_is); (case c=>k_is); (case k=>k_is)
  have dL_odd:DW.DefAt (L2.KOf KX) "_law_odd" DW.K66.sL_odd:=by
   dsimp only [L2.KOf]
   refine' DW.defAt_mk ?a ?l ?c ?k
   (case a=>k_is); (case l=>k_is); (case c=>k_is); (case k=>k_is)
  have dL_layout:DW.DefAt (L2.KOf KX) "_law_layout" DW.K66.sL_layout:=by
   dsimp only [L2.KOf]
   refine' DW.defAt_mk ?a ?l ?c ?k
   (case a=>k_is); (case l=>k_is); (case c=>k_is); (case k=>k_is)
  have dL_phases:DW.DefAt (L2.KOf KX) "_law_phases" DW.K66.sL_phases:=by
   dsimp only [L2.KOf]
   refine' DW.defAt_mk ?a ?l ?c ?k
   (case a=>k_is); (case l=>k_is); (case c=>k_is); (case k=>k_is)
  have dL_turned:DW.DefAt (L2.KOf KX) "_law_turned" DW.K66.sL_turned:=by
   dsimp only [L2.KOf]
   refine' DW.defAt_mk ?a ?l ?c ?k
   (case a=>k_is); (case l=>k_is); (case c=>k_is); (case k=>k_is)
  have dL_is:DW.DefAt (L2.KOf KX) "_law_is" DW.K66.sL_is:=by
   dsimp only [L2.KOf]
   refine' DW.defAt_mk ?a ?l ?c ?k
   (case a=>k_is); (case l=>k_is); (case c=>k_is); (case k=>k_is)
  have d_are_sources:DW.DefAt (L2.KOf KX) "are_sources" DW.K66.s_are_sources:=by
   dsimp only [L2.KOf]
   refine' DW.defAt_mk ?a ?l ?c ?k
   (case a=>k_is); (case l=>k_is); (case c=>k_is); (case k=>k_is)
  have dL_layers:DW.DefAt (L2.KOf KX) "_law_layers" DW.K66.sL_layers:=by
   dsimp only [L2.KOf]
   refine' DW.defAt_mk ?a ?l ?c ?k
   (case a=>k_is); (case l=>k_is); (case c=>k_is); (case k=>k_is)
  have d_is_phase:DW.DefAt (L2.KOf KX) "is_phase" DW.K66.s_is_phase:=by
   dsimp only [L2.KOf]
   refine' DW.defAt_mk ?a ?l ?c ?k
   (case a=>k_is); (case l=>k_is); (case c=>k_is); (case k=>k_is)
  have d_led:DW.DefAt (L2.KOf KX) "led" DW.K66.s_led:=by
   dsimp only [L2.KOf]
   refine' DW.defAt_mk ?a ?l ?c ?k
   (case a=>k_is); (case l=>k_is); (case c=>k_is); (case k=>k_is)
  have d_next_layer:DW.DefAt (L2.KOf KX) "next_layer" DW.K66.s_next_layer:=by
   dsimp only [L2.KOf]
   refine' DW.defAt_mk ?a ?l ?c ?k
   (case a=>k_is); (case l=>k_is); (case c=>k_is); (case k=>k_is)
  have d_layers:DW.DefAt (L2.KOf KX) "layers" DW.K66.s_layers:=by
   dsimp only [L2.KOf]
   refine' DW.defAt_mk ?a ?l ?c ?k
   (case a=>k_is); (case l=>k_is); (case c=>k_is); (case k=>k_is)
  have d_are_layers:DW.DefAt (L2.KOf KX) "are_layers" DW.K66.s_are_layers:=by
   dsimp only [L2.KOf]
   refine' DW.defAt_mk ?a ?l ?c ?k
   (case a=>k_is); (case l=>k_is); (case c=>k_is); (case k=>k_is)
  have d_law:DW.DefAt (L2.KOf KX) "law" DW.K66.s_law:=by
   dsimp only [L2.KOf]
   refine' DW.defAt_mk ?a ?l ?c ?k
   (case a=>k_is); (case l=>k_is); (case c=>k_is); (case k=>k_is)
  have fr:DW.FreeAt (L2.KOf KX) DW.K66.blts:=by
   dsimp only [L2.KOf,DW.K66.blts,DW.FreeAt]
   refine' ⟨?z0,?z1,?z2,?z3,?z4,?z5,?z6,?z7,?z8,?z9,?z10,?z11,?z12,?z13,trivial⟩
   (case z0=>k_is)
   (case z1=>k_is)
   (case z2=>k_is)
   (case z3=>k_is)
   (case z4=>k_is)
   (case z5=>k_is)
   (case z6=>k_is)
   (case z7=>k_is)
   (case z8=>k_is)
   (case z9=>k_is)
   (case z10=>k_is)
   (case z11=>k_is)
   (case z12=>k_is)
   (case z13=>k_is)
  obtain ⟨f,fd,e1,F⟩:=d_law
  have e2:=hmg.symm.trans (PySem.W.mg_of KX G e1)
  cases e2
  refine ⟨fd,?_,fun base _ _=>DW.K66.law_fn (T:=⟨_,w,_,mg,base⟩) KX G fr d_is_whole d_source_choices d_singles dL_box dL_take dL_whole dL_ways dL_led d_is_below d_phases_of dL_odd dL_layout dL_phases dL_turned dL_is d_are_sources dL_layers d_is_phase d_led d_next_layer d_layers d_are_layers F⟩
  obtain ⟨oc,od,kV,doc,pm,an,cdv,ct,osl,rfl,lk,hcd⟩:=F.ex
  exact fun s u=>.of_eq rfl
#print axioms PySem.Challenge.cw_pourwright_k66_are_layers_holds
