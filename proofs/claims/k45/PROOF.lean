import PyProof.Rows.All
import Wide.All
import OpenK.AllK
import Wide.FinOn
import Lean
import PyProof.EqAt
import PyProof.EqKinds
import PyProof.TupleCall
import KE.KTabLook
import PyProof.StrLawsChain
import PyProof.StrLawsFirst
import PyProof.StrLawsJoin
import PyProof.MeetsStr2
import PyProof.ReprLen
import KE.KIntText
import PySem.Syntax
import PySem.Value
import PyProof.StrOps2
import PySem.Eval
import PyProof.NeKinds
import PyProof.StrLawsIn
import KE.KEqDict
import PyProof.DictTable
import KE.KDictList
import PyProof.DictItems
import PyProof.SliceStr2
import PyProof.ReprRoads
import PyProof.CallFns
import KE.KSortTup
import PyProof.Rows.SortWalk
import PyProof.Dict
import PyProof.DictKinds
import PyProof.StrOps
import KE.KLam
import PyProof.FitsInt
import PyProof.ListRange
import PyProof.TupleOfSeq
import PyProof.Rows.FactsT2
import PyProof.ZipIter
import PyProof.WalksEnum
import PyProof.EnumMake
import KE.KPairComp
import KE.KRevIter
import PyProof.CollectIter
import PyProof.EnumStmt
import KE.KTryMore
import OpenK.KMake
import PyProof.AttrMiss
import PyProof.FactsAll.enumerate
import KE.KDictOf
import PyProof.Rows.SeqMore2
import PyProof.FactsAll.str_0
import PyProof.FactsAll.str_5
import PyProof.FactsAll.str_7
import PyProof.FactsAll.tuple_2
import PyProof.FactsAll.tuple_3
import PyProof.MinMaxWalk
import PyProof.MeetsSeq
import PyProof.Rows.FStr
import PyProof.Rows.SetFrom
import PyProof.WalksMore
import PyProof.TupleIter
import PyProof.FactsAll.tuple_0
import PySem.Challenge.RW_pourwright_k45_tables_told
set_option autoImplicit false
set_option linter.all false
set_option maxRecDepth 100000
set_option exponentiation.threshold 1000
set_option Elab.async false
set_option genSizeOf false
namespace PySem.W.Fast
def tw13778044375891763167:=0
def tw5753999675955941279:=0
def tw1779821598914945503:=0
def tw3536657709675608479:=0
def tw432641842086382975:=0
def tw16861634303446338751:=0
def tw8378767166918257823:=0
def tw18342526932782796831:=0
def tw9416909879659672542:=0
def tw3212370837063103166:=0
def tw1764455658660352190:=0
def tw2513115980123996350:=0
def tw7606603090450805854:=0
def tw11364941108960285661:=0
def tw3263878058580341405:=0
def tw8774150126038491805:=0
def tw11972940103394107037:=0
def tw15400698494339615325:=0
def tw1904165033592917565:=0
def tw8972313524949582109:=0
def tw352660334796117245:=0
def tw2803094873138422941:=0
def tw7355101890906303613:=0
def tw10204313497207780348:=0
def tw14348554163277030108:=0
def tw6475373036263902524:=0
def tw5397371645705484348:=0
def tw15075288018487365692:=0
def tw447994858902969147:=0
def tw425439681488831035:=0
def tw2221864559925024219:=0
def tw9273949991416627419:=0
def tw13581822531892435067:=0
def tw791094188113582010:=0
def tw12130141641838665530:=0
def tw16510591060361709978:=0
def tw6337695134953849178:=0
def tw10906188663819325466:=0
def tw2423703132388900793:=0
def tw6651439407301069497:=0
def tw7699518551275815545:=0
def tw13765606639786364345:=0
def tw6541994003209492889:=0
def tw14789467397424680281:=0
def tw3438209610563197209:=0
def tw11410575968439388409:=0
def tw18036907212032109753:=0
def tw15217441106860279736:=0
def tw3562055052622040824:=0
def tw16352500736312221336:=0
def tw10084713563639927352:=0
def tw6764223495288953400:=0
def tw15240179214950392280:=0
def tw8382200507345709464:=0
def tw1426994836306027800:=0
def tw14667120122193492120:=0
def tw3973713439332125784:=0
def tw10581894746573711127:=0
def tw819663268409428471:=0
def tw2025401259089504727:=0
def tw7914746675313222967:=0
def tw4268947073250062391:=0
def tw5634171247220749270:=0
def tw4414094254063124310:=0
def tw496860855359295254:=0
def tw11344208742038311446:=0
def tw16353857331579121974:=0
def tw8110704841169683574:=0
def tw1701902641281427542:=0
def tw9310522446309033046:=0
def tw2317359904217583670:=0
def tw16850654124643811317:=0
def tw3657582848450751477:=0
def tw5472655911017350933:=0
def tw17624621063054307061:=0
def tw15535305658771579285:=0
def tw6822357027281885461:=0
def tw17491748777512062037:=0
def tw10743750239896738772:=0
def tw16092609181243711316:=0
def tw11967187678386504404:=0
def tw6447415071815974292:=0
def tw7808919851736070164:=0
def tw10492727843103968851:=0
def tw12300644610350826003:=0
def tw8242103372565554675:=0
def tw5660548960125829331:=0
def tw810611989027412818:=0
def tw1827254186769560306:=0
def tw10678700260299364882:=0
def tw2672949479865202162:=0
def tw13034978007112229202:=0
def tw11572994625082429778:=0
def tw9505391240148190514:=0
def tw10462470326820834129:=0
def tw16508741751095102801:=0
def tw13741426948481032337:=0
def tw10907413197937269873:=0
def tw5796031110714581073:=0
def tw12286178189009375088:=0
def tw11768313880586347120:=0
def tw10266205759705435632:=0
def tw2816929217348755664:=0
def tw8505786990571589840:=0
def tw10216355600028737616:=0
def tw13099253202698537008:=0
def tw5981985162590067728:=0
def tw453038503696433168:=0
def tw7823685696455374767:=0
def tw867612843102849807:=0
def tw14648779645530166959:=0
def tw12654324249679500975:=0
def tw13038532652035621135:=0
def tw3472631921270066126:=0
def tw15987146830450678606:=0
def tw2299588651756782286:=0
def tw14377562268279561806:=0
def tw16005260257190643950:=0
def tw4516975693925684238:=0
def tw11322169469728412493:=0
def tw2312012846972994253:=0
def tw14108879782059777613:=0
def tw14497383543949545837:=0
def tw14988684693616400653:=0
def tw15633983607003434189:=0
def tw14185181865904752749:=0
def tw5493925218592582444:=0
def tw9533853080584085100:=0
def tw1952655838907345260:=0
def tw14056812776326740300:=0
def tw9758581808955534668:=0
def tw1337102368172927116:=0
def tw12056260769665377388:=0
def tw11073225950812075084:=0
def tw3207707816086697996:=0
def tw10743736124751860683:=0
def tw6103699956325710731:=0
def tw8684750374631065451:=0
def tw4682835121623949099:=0
def tw2315194592543013643:=0
def tw17723731185996234411:=0
def tw2348605280195235435:=0
def tw17475976280033417803:=0
def tw9498650396132997515:=0
def tw4106942586777252011:=0
def tw7057721817054449675:=0
def tw1622548591336572842:=0
def tw7580621449783100298:=0
def tw10917105987328808842:=0
def tw11721204796852515562:=0
def tw2581965477127021098:=0
def tw16820364686654976554:=0
def tw10196496867169862090:=0
def tw9426010736417930602:=0
def tw15926329490080824650:=0
def tw14975987285728154569:=0
def tw9225251183761687209:=0
def tw6713332626184799817:=0
def tw5349212949231761705:=0
def tw11920822679684931817:=0
def tw16399747419069416681:=0
def tw8009968019680740425:=0
def tw8085361262323664969:=0
def tw3961436592002871272:=0
def tw3855299587947106248:=0
def tw2240776832364718696:=0
def tw349236639503478152:=0
def tw2140519958408522120:=0
def tw9787940667716751560:=0
def tw18086265085240841191:=0
def tw7646694101786021543:=0
def tw17576562708012828999:=0
def tw9922187303894274247:=0
def tw16200336895800231047:=0
def tw7769986635649425382:=0
def tw17213008000763595686:=0
def tw7240509763647828710:=0
def tw3519704791773467174:=0
def tw11168290790236485030:=0
def tw6860847694483024230:=0
def tw13656759572021216550:=0
def tw1772184253185184870:=0
def tw852052383940904006:=0
def tw17307686737966290982:=0
def tw7082919850294709221:=0
def tw14445105977409302213:=0
def tw6098070520376959621:=0
def tw8773232669709053413:=0
def tw5105783495046571333:=0
def tw9217219071335866661:=0
def tw11796204386452888773:=0
def tw11278818596297029733:=0
def tw8248223285557665764:=0
def tw15036865066925204004:=0
def tw4936032571856548196:=0
def tw12597867787711106019:=0
def tw16413697040020092771:=0
def tw2506629907823255203:=0
def tw12085519329846033955:=0
def tw17813993270834277699:=0
def tw2706484945001085091:=0
def tw15759368628855653507:=0
def tw11795148171837575267:=0
def tw2598403315729478659:=0
def tw17251702515564614338:=0
def tw4022240603421643170:=0
def tw1058042602394641506:=0
def tw6001727365372236577:=0
def tw15182613415898881:=0
def tw17882687585947763361:=0
def tw3029984262177156673:=0
def tw4622908507614111233:=0
def tw1700433396999060865:=0
def tw17951482336606008449:=0
def tw1514364792716130401:=0
def tw1686295263081505632:=0
def tw15628531793122080576:=0
def tw13423691054636376640:=0
def tw18304553545935220192:=0
def tw14279898314275249568:=0
def tw8586528375815319680:=0
def tw4595400414744527904:=0
def tw2069441978347193376:=0
def tw6425294969619297280:=0
def tw5436264667080419354:=0
def tw11057979674000052432:=0
end PySem.W.Fast
section
set_option Elab.async false
namespace L2
open PySem PySem.Spec PyProof.Rows
noncomputable abbrev Key:=Sum Int Str
noncomputable def uV:Key->Value->Bool
 | .inl k,v=>Value.isInt k v
 | .inr x,v=>Value.isStrOf x v
noncomputable def abD (w:World):Key->Int
 | .inl k=>hashInt k
 | .inr x=>hashStr w x
theorem bI:∀ {k:Key} {v:Value},uV k v=true->(∃ i t,k=Sum.inl i/\v=Value.int i t)∨(∃ x t,k=Sum.inr x/\v=Value.str x t)
 | .inl i,v,h=>by
  obtain ⟨t,e⟩:=Value.isInt_shape (k:=i) (v:=v) h
  exact .inl ⟨i,t,rfl,e⟩
 | .inr x,v,h=>by
  obtain ⟨t,e⟩:=Value.isStrOf_shape (x:=x) (v:=v) h
  exact .inr ⟨x,t,rfl,e⟩
theorem xJ (i:Int) (t:Tok):uV (.inl i) (.int i t)=true:=by simp [uV,Value.isInt]
theorem xH (x:Str) (t:Tok):uV (.inr x) (.str x t)=true:=by simp [uV,Value.isStrOf]
theorem Xg (a b:Int):decide ((Sum.inl a:Key)=Sum.inl b)=(a == b):=by
 by_cases e:a=b
 ·subst e; simp
 ·have h:¬ (Sum.inl a:Key)=Sum.inl b:=fun q=>e (Sum.inl.inj q)
  rw [decide_eq_false h]
  exact (beq_eq_false_iff_ne.mpr e).symm
theorem Xc (a b:Str):decide ((Sum.inr a:Key)=Sum.inr b)=decide (a=b):=by
 by_cases e:a=b
 ·subst e; simp
 ·have h:¬ (Sum.inr a:Key)=Sum.inr b:=fun q=>e (Sum.inr.inj q)
  rw [decide_eq_false h,decide_eq_false e]
theorem Xf (a:Int) (b:Str):decide ((Sum.inl a:Key)=Sum.inr b)=false:=decide_eq_false (fun q=>nomatch q)
theorem Xe (a:Str) (b:Int):decide ((Sum.inr a:Key)=Sum.inl b)=false:=decide_eq_false (fun q=>nomatch q)
noncomputable def aX (prog:Program) (w:World):PySem.KeyKind prog w Key where
 is:=uV
 hash:=abD w
 inj:=fun v a b ha hb=>by
  rcases bI ha with ⟨i,t,rfl,rfl⟩ | ⟨x,t,rfl,rfl⟩
  ·rcases bI hb with ⟨j,u,rfl,e⟩ | ⟨y,u,rfl,e⟩
   ·injection e with e1 _; rw [e1]
   ·exact nomatch e
  ·rcases bI hb with ⟨j,u,rfl,e⟩ | ⟨y,u,rfl,e⟩
   ·exact nomatch e
   ·injection e with e1 _; rw [e1]
 byValue:=fun k v h=>by
  rcases bI h with ⟨i,t,rfl,rfl⟩ | ⟨x,t,rfl,rfl⟩ <;> rfl
 pyHash:=fun hv h=>by
  rcases bI hv with ⟨i,t,rfl,rfl⟩ | ⟨x,t,rfl,rfl⟩
  ·exact wpAny_pyHash_int h
  ·exact wpAny_pyHash_str h
 eqBool:=fun hu hv h=>by
  rcases bI hu with ⟨i,t,rfl,rfl⟩ | ⟨x,t,rfl,rfl⟩
  ·rcases bI hv with ⟨j,u,rfl,rfl⟩ | ⟨y,u,rfl,rfl⟩
   ·rw [Xg] at h; exact wpAny_eqBool_int h
   ·rw [Xf] at h; exact SeqAt.EqAt.int_str i t y u _ _ _ _ h
  ·rcases bI hv with ⟨j,u,rfl,rfl⟩ | ⟨y,u,rfl,rfl⟩
   ·rw [Xe] at h; exact SeqAt.EqAt.str_int x t j u _ _ _ _ h
   ·rw [Xc] at h; exact wpAny_eqBool_str h
 «strs»:=fun k x t v h=>by
  rcases bI h with ⟨i,u,rfl,e⟩ | ⟨y,u,rfl,e⟩
  ·exact nomatch e
  ·injection e with e1 _
   subst e1
   cases v <;> rfl
theorem BR (prog:Program) (w:World) (i:Int) (t:Tok):(aX prog w).is (.inl i) (.int i t)=true:=xJ i t
theorem BP (prog:Program) (w:World) (x:Str) (t:Tok):(aX prog w).is (.inr x) (.str x t)=true:=xH x t
end L2
namespace L2
open PySem PySem.Spec PyProof.Rows
inductive V where
 | non | bl (b:Bool) | int (i:Int) | str (x:Str) | X3 (b:Array UInt8) | flt (b:UInt64) | ref (a:Addr) | ty (n:String)
 deriving DecidableEq
noncomputable def RelV:V->Value->Prop
 | .non,u=>u=Value.none
 | .bl b,u=>u=Value.bool b
 | .int i,u=>∃ t,u=Value.int i t
 | .str x,u=>∃ t,u=Value.str x t
 | .X3 b,u=>∃ t,u=Value.bytes b t
 | .flt b,u=>∃ t,u=Value.float b t
 | .ref a,u=>u=Value.ref a
 | .ty n,u=>u=Value.type n
noncomputable abbrev Vals:List V->List Value->Prop:=Paired RelV
theorem Vals.length {xs:List V} {us:List Value} (r:Vals xs us):xs.length=us.length:=Paired.length r
theorem Vals.get:∀ {xs:List V} {us:List Value} {i:Nat} {x:V},Vals xs us->xs[i]? = some x->∃ u,us[i]? = some u/\RelV x u
 | _,_,_,_,.nil,e=>by simp at e
 | _,_,0,_,.cons r _,e=>by simp at e; subst e; exact ⟨_,rfl,r⟩
 | _,_,i + 1,x,.cons _ t,e=>by
  obtain ⟨u,h1,h2⟩:=Vals.get (i:=i) (x:=x) t (by simpa using e)
  exact ⟨u,by simpa using h1,h2⟩
theorem Vals.set {x:V} {u:Value} (r:RelV x u):∀ {xs:List V} {us:List Value} (i:Nat),Vals xs us->Vals (xs.set i x) (us.set i u)
 | _,_,_,.nil=>.nil
 | _,_,0,.cons _ t=>.cons r t
 | _,_,i + 1,.cons q t=>.cons q (Vals.set r i t)
theorem Vals.append:∀ {xs ys:List V} {us ws:List Value},Vals xs us->Vals ys ws->Vals (xs ++ ys) (us ++ ws)
 | _,_,_,_,.nil,s=>s
 | _,_,_,_,.cons r t,s=>.cons r (Vals.append t s)
theorem Vals.take:∀ {xs:List V} {us:List Value} (n:Nat),Vals xs us->Vals (xs.take n) (us.take n)
 | _,_,0,_=>.nil
 | _,_,_ + 1,.nil=>.nil
 | _,_,n + 1,.cons r t=>.cons r (Vals.take n t)
theorem Vals.drop:∀ {xs:List V} {us:List Value} (n:Nat),Vals xs us->Vals (xs.drop n) (us.drop n)
 | _,_,0,r=>r
 | _,_,_ + 1,.nil=>.nil
 | _,_,n + 1,.cons _ t=>Vals.drop n t
noncomputable def qp:Option V->Option Value->Prop
 | some v,some u=>RelV v u
 | none,none=>True
 | _,_=>False
noncomputable def KV {κ:Type}:List (κ×V)->List (κ×Value)->Prop:=Paired fun (p:κ×V) (q:κ×Value)=>p.1=q.1/\RelV p.2 q.2
noncomputable def kV:Key->V
 | .inl i=>.int i
 | .inr x=>.str x
structure Tab where
 q:Str
 ps:Array Value
instance:HAppend Tab (Array Value) Tab:=⟨fun t m=>⟨t.q,t.ps ++ m⟩⟩
theorem Tab.assoc (t:Tab) (a b:Array Value):t ++ a ++ b=t ++ (a ++ b):=by show Tab.mk t.q (t.ps ++ a ++ b)=Tab.mk t.q (t.ps ++ (a ++ b)); rw [Array.append_assoc]
@[simp] theorem Tab.nil (t:Tab):t ++ (#[]:Array Value)=t:=by show Tab.mk t.q (t.ps ++ #[])=t; rw [Array.append_empty]
inductive HO where
  | lst (xs:List V)
  | tup (xs:List V)
  | dK (kvs:List (Key×V)) | dT (kvs:List (List Key×V))
  | set (S:Int->Bool) (n:Nat)
  | ins (C dx:Addr) (fs:List (Str×V))
  | own (x:Addr)
  | xd (fs:List (Str×V))
  | met (f x:Addr)
  | rng (lo hi:Int)
  | bK (o:Obj) (u:HO)
  | Em (t:Tab)
  | ext (φ:Heap->Prop)
noncomputable abbrev Hp:=Addr->Option HO
noncomputable def upd (H:Hp) (a:Addr) (o:HO):Hp:=fun b=>if b=a then some o else H b
theorem aA {H:Hp} {a:Addr} {o:HO}:upd H a o a=some o:=by unfold upd; rw [if_pos rfl]
theorem aq {H:Hp} {a b:Addr} {o:HO} (h:b≠a):upd H a o b=H b:=by unfold upd; rw [if_neg h]
theorem Uy {H:Hp} {a b:Addr} {o u:HO} (h:H a=some o) (h':H b=some u) (d:o≠u):a≠b:=by
 intro e; subst e; rw [h] at h'; exact d (Option.some.inj h')
theorem bh {H:Hp} {a b:Addr} {o:HO} (h:H a=some o) (h':H b=none):a≠b:=by
 intro e; subst e; rw [h] at h'; cases h'
noncomputable def mV (h:Heap) (a:Addr) (items:Array Value):Prop:=∃ o,h.get? a=some o/\o.cls = .type "tuple"/\∃ n,o.data = .seq items n/\o.dict=none
theorem mV.is {h:Heap} {a:Addr} {items:Array Value} (x:mV h a items):IsTup h a items:=by obtain ⟨o,e,c,n,d,_⟩:=x; exact ⟨o,e,c,n,d⟩
theorem mV.lt {h:Heap} {a:Addr} {items:Array Value} (x:mV h a items):a < h.objs.size:=by obtain ⟨o,e,_⟩:=x; exact Heap.lt_size e
theorem mV.new (h:Heap) (items:Array Value):mV (h.push { cls:=.type "tuple",data:=.seq items }) h.objs.size items:=⟨_,Heap.get?_push_size _ rfl,rfl,_,rfl,rfl⟩
section
variable (P:Program) (w:World)
noncomputable def aJ (H:Hp) (h:Heap) (a:Addr):HO->Prop
 | .lst xs=>xs.length<=sizeLine/\∃ (its:List Value) (n:Nat),Vals xs its/\h.get? a=some { cls:=.type "list",data:=.seq its.toArray n }
 | .tup xs=>xs.length<=sizeLine/\∃ its:List Value,Vals xs its/\mV h a its.toArray
 | .dK kvs=>kvs.length<=sizeLine/\(a == sysModules)=false/\∃ vs,KV kvs vs/\h.DictOf (aX P w) a vs
 | .dT kvs=>kvs.length<=sizeLine/\(a == sysModules)=false/\∃ xs:List (List Key×Addr×Value),
   Paired (fun (p:List Key×V) (q:List Key×Addr×Value)=>p.1=q.1/\H q.2.1=some (.tup (p.1.map kV))/\RelV p.2 q.2.2) kvs xs /\
   ∃ o es ep,h.get? a=some o/\o.ExactDict/\o.data = .dict es ep/\es.toList=xs.map (entryOfKey (tupleKind (aX P w)))/\(xs.map (·.1)).Nodup
 | .set S n=>h.SetOf (intKind P w) a S n
 | .ins C dx fs=>H dx=some (.own a)/\fs.length<=1000/\dx≠a/\h.get? a=some (PySem.W.instObj C dx) /\
   ∃ mA,h.Ns1 dx mA/\(∀ f,qp (fs.lookup f) (mA f))/\PySem.Within mA (fs.map (·.1))
 | .own _=>∃ o,h.get? a=some o
 | .xd fs=>∃ mA,h.Ns1 a mA/\∀ f,qp (fs.lookup f) (mA f)
 | .rng lo hi=>∃ t u v,h.get? a=some { cls:=.type "range",data:=.fields #[.int lo t,.int hi u,.int 1 v] }
 | .bK o u=>h.get? a=some o/\aJ H h a u
 | .Em t=>h.get? a=some { cls:=.none,data:=.fields t.ps }/\TriplesOk t.ps.toList/\∀ pos cv,codeAmong pos t.ps.toList=some cv->∃ c oc vs tq,cv = .ref c/\H c=some (.own a)/\h.get? c=some oc/\oc.data = .fields vs/\vs[1]? = some (.str t.q tq)
 | .met f x=>h.get? a=some (PySem.W.methodObj (.ref f) (.ref x))
 | .ext φ=>φ h/\(∃ o,h.get? a=some o)/\∀ h1 h2:Heap,φ h1->(∀ o,h1.get? a=some o->h2.get? a=some o)->φ h2
noncomputable def ni (H:Hp) (h:Heap):Prop:=∀ a o,H a=some o->aJ P w H h a o
end
section
variable {P:Program} {w:World} {H H':Hp} {h h':Heap} {a:Addr} {o:HO}
theorem aJ.lt (x:aJ P w H h a o):a < h.objs.size:=by
 cases o with
 | lst xs=>obtain ⟨_,_,_,_,e⟩:=x; exact Heap.lt_size e
 | tup xs=>obtain ⟨_,_,_,p⟩:=x; exact p.lt
 | dK kvs=>obtain ⟨_,_,_,_,o,_,_,e,_⟩:=x; exact Heap.lt_size e
 | dT kvs=>obtain ⟨_,_,_,_,o,_,_,e,_⟩:=x; exact Heap.lt_size e
 | set S n=>obtain ⟨o,_,_,_,e,_⟩:=x; exact Heap.lt_size e
 | ins C dx fs=>obtain ⟨_,_,_,e,_⟩:=x; exact Heap.lt_size e
 | own y=>obtain ⟨_,e⟩:=x; exact Heap.lt_size e
 | xd fs=>obtain ⟨_,⟨_,_,_,e,_⟩,_⟩:=x; exact Heap.lt_size e
 | rng lo hi=>obtain ⟨_,_,_,e⟩:=x; exact Heap.lt_size e
 | bK ob u=>obtain ⟨e,_⟩:=x; exact Heap.lt_size e
 | Em t=>exact Heap.lt_size (show h.get? a=some _ from x.1)
 | met f y=>exact Heap.lt_size (show h.get? a=some _ from x)
 | ext φ=>obtain ⟨_,⟨_,e⟩,_⟩:=x; exact Heap.lt_size e
theorem Paired.W2 {α β:Type} {F G:α->β->Prop}:∀ {l₁:List α} {l₂:List β},Paired F l₁ l₂->(∀ a b,F a b->G a b)->Paired G l₁ l₂
 | _,_,.nil,_=>.nil
 | _,_,.cons r t,f=>.cons (f _ _ r) (Paired.W2 t f)
theorem aJ.stay (x:aJ P w H h a o) (k:∀ b u,(b=a∨H b=some (.own a))->h.get? b=some u->h'.get? b=some u)
  (ho:∀ b,H b=some (.own a)->H' b=some (.own a)) (ht:∀ b xs,H b=some (.tup xs)->H' b=some (.tup xs)):aJ P w H' h' a o:=by
 induction o with
 | lst xs=>obtain ⟨z,its,n,r,e⟩:=x; exact ⟨z,its,n,r,k _ _ (.inl rfl) e⟩
 | tup xs=>obtain ⟨z,its,r,ob,e,c⟩:=x; exact ⟨z,its,r,ob,k _ _ (.inl rfl) e,c⟩
 | dK kvs=>obtain ⟨z,y,vs,r,ob,es,ep,e,c⟩:=x; exact ⟨z,y,vs,r,ob,es,ep,k _ _ (.inl rfl) e,c⟩
 | dT kvs =>
  obtain ⟨z,y,xs,r,ob,es,ep,e,c⟩:=x
  exact ⟨z,y,xs,Paired.W2 r fun p q z=>⟨z.1,ht _ _ z.2.1,z.2.2⟩,ob,es,ep,k _ _ (.inl rfl) e,c⟩
 | set S n=>obtain ⟨ob,es,ep,t,e,c⟩:=x; exact ⟨ob,es,ep,t,k _ _ (.inl rfl) e,c⟩
 | ins C dx fs =>
  obtain ⟨d,z,ne,e,mA,⟨od,es,ep,e2,c⟩,r⟩:=x
  exact ⟨ho _ d,z,ne,k _ _ (.inl rfl) e,mA,⟨od,es,ep,k _ _ (.inr d) e2,c⟩,r⟩
 | own y=>obtain ⟨ob,e⟩:=x; exact ⟨ob,k _ _ (.inl rfl) e⟩
 | xd fs=>obtain ⟨mA,⟨od,es,ep,e,c⟩,r⟩:=x; exact ⟨mA,⟨od,es,ep,k _ _ (.inl rfl) e,c⟩,r⟩
 | rng lo hi=>obtain ⟨t,u,v,e⟩:=x; exact ⟨t,u,v,k _ _ (.inl rfl) e⟩
 | bK ob u ih=>obtain ⟨e,q⟩:=x; exact ⟨k _ _ (.inl rfl) e,ih q⟩
 | Em t =>
  obtain ⟨e,z,q⟩:=x
  refine ⟨k a _ (.inl rfl) e,z,fun pos cv y=>?_⟩
  obtain ⟨c,oc,vs,tq,r1,r2,r3,r4⟩:=q pos cv y
  exact ⟨c,oc,vs,tq,r1,ho _ r2,k _ _ (.inr r2) r3,r4⟩
 | met f y =>
  have e:h.get? a=some (PySem.W.methodObj (.ref f) (.ref y)):=x
  show h'.get? a=some (PySem.W.methodObj (.ref f) (.ref y))
  exact k a _ (.inl rfl) e
 | ext φ=>obtain ⟨p,⟨o,e⟩,st⟩:=x; exact ⟨st _ _ p fun o q=>k _ _ (.inl rfl) q,⟨o,k _ _ (.inl rfl) e⟩,st⟩
theorem ni.lt (x:ni P w H h) (e:H a=some o):a < h.objs.size:=(x a o e).lt
theorem ni.fresh (x:ni P w H h) (e:h.objs.size<=a):H a=none:=by
 cases q:H a with
 | none=>rfl
 | some u=>exact absurd (Nat.lt_of_lt_of_le (x.lt q) e) (Nat.lt_irrefl _)
theorem ni.kept (x:ni P w H h) (k:∀ b u,h.get? b=some u->h'.get? b=some u):ni P w H h':=fun a o e =>
 (x a o e).stay (fun b u _ q=>k b u q) (fun _ q=>q) fun _ _ q=>q
theorem ni.laid (x:ni P w H h) (k:∀ b u,h.get? b=some u->h'.get? b=some u) (hp:h.objs.size<=a) (new:aJ P w (upd H a o) h' a o):ni P w (upd H a o) h':=fun b u e=>by
 have hn:=x.fresh hp
 by_cases hb:b=a
 ·subst hb; rw [aA] at e; cases e; exact new
 ·rw [aq hb] at e
  exact (x b u e).stay (fun c v _ q=>k c v q) (fun c q=>by rw [aq (bh q hn)]; exact q) fun c xs q=>by rw [aq (bh q hn)]; exact q
end
noncomputable def Rd (H:Hp) (a:Addr) (u:HO):Prop:=H a=some u∨∃ o,H a=some (.bK o u)
theorem Rd.of {H:Hp} {a:Addr} {u:HO} (h:H a=some u):Rd H a u:=.inl h
theorem Rd.ok {P:Program} {w:World} {H:Hp} {h:Heap} {a:Addr} {u:HO} (r:Rd H a u) (x:ni P w H h):aJ P w H h a u:=by
 rcases r with r | ⟨o,r⟩
 ·exact x a u r
 ·obtain ⟨_,q⟩:=x a _ r
  exact q
noncomputable def Mut:Option HO->Prop
 | some (.lst _)=>True
 | some (.dK _)=>True
 | some (.dT _)=>True
 | some (.set _ _)=>True
 | some (.ins _ _ _)=>True
 | some (.ext _)=>True
 | _=>False
section
variable {P:Program} {w:World} {H:Hp} {h h':Heap} {x e:Addr} {o':HO}
theorem ni.write (ok:ni P w H h) (mu:Mut (H x)) (he:e=x∨H e=some (.own x)) (k:∀ b u,b≠e->h.get? b=some u->h'.get? b=some u) (heo:∃ u,h'.get? e=some u)
  (new:aJ P w (upd H x o') h' x o'):ni P w (upd H x o') h':=fun b u q=>by
 have Zr:∀ c y,H c=some (.own y)->c≠x:=fun c y r z=>by subst z; rw [r] at mu; exact mu
 have abw:∀ c xs,H c=some (.tup xs)->c≠x:=fun c xs r z=>by subst z; rw [r] at mu; exact mu
 by_cases hb:b=x
 ·subst hb; rw [aA] at q; cases q; exact new
 ·rw [aq hb] at q
  by_cases hbe:b=e
  ·have q':H b=some (.own x):=by
    rcases he with z | z
    ·exact absurd (hbe.trans z) hb
    ·rw [hbe]; exact z
   rw [q] at q'; cases q'
   obtain ⟨v,hv⟩:=heo
   exact ⟨v,by rw [hbe]; exact hv⟩
  ·refine (ok b u q).stay (fun c v hc r=>k c v ?_ r) (fun c r=>by rw [aq (Zr c b r)]; exact r) fun c xs r=>by rw [aq (abw c xs r)]; exact r
   rcases hc with rfl | hc
   ·exact hbe
   ·rintro rfl
    rcases he with z | z
    ·exact Zr c b hc z
    ·rw [hc] at z; cases z; exact hb rfl
end
structure Un (fs ex:List Addr) (H H':Hp) (h h':Heap):Prop where
 keep:∀ b o,h.get? b=some o->H b=none->b ∉ fs->b ∉ ex->h'.get? b=some o
 slot:∀ b o,h.get? b=some o->H b=none->b∈fs->b ∉ ex->∃ sl,h'.get? b=some { o with slots:=sl }
 free:∀ b o,h.get? b=some o->H b=none->b ∉ ex->H' b=none
 there:∀ b o,h.get? b=some o->b ∉ ex->∃ o',h'.get? b=some o'
 tups:∀ b xs,H b=some (.tup xs)->H' b=some (.tup xs)
 iu:∀ b o u,H b=some (.bK o u)->H' b=some (.bK o u)
 jA:∀ b ps,H b=some (.Em ps)->∃ more:Array Value,H' b=some (.Em (ps ++ more))
section
variable {fs fs' ex ex':List Addr} {H H1 H2:Hp} {h h1 h2 h':Heap} {a x e:Addr} {o:HO}
theorem Un.any (u:Un fs ex H H1 h h1) {b:Addr} {ob:Obj} (q:h.get? b=some ob) (n:H b=none) (hx:b ∉ ex):∃ sl,h1.get? b=some { ob with slots:=sl }:=by
 by_cases hb:b∈fs
 ·exact u.slot b ob q n hb hx
 ·exact ⟨ob.slots,u.keep b ob q n hb hx⟩
theorem Un.trans (a:Un fs ex H H1 h h1) (b:Un fs ex H1 H2 h1 h2):Un fs ex H H2 h h2 where
 keep:=fun c ob q n hc hx=>b.keep c ob (a.keep c ob q n hc hx) (a.free c ob q n hx) hc hx
 slot:=fun c ob q n hc hx=>by
  obtain ⟨sl,e1⟩:=a.slot c ob q n hc hx
  obtain ⟨sl',e2⟩:=b.slot c _ e1 (a.free c ob q n hx) hc hx
  exact ⟨sl',e2⟩
 free:=fun c ob q n hx=>by
  obtain ⟨o',e1⟩:=a.there c ob q hx
  exact b.free c o' e1 (a.free c ob q n hx) hx
 there:=fun c ob q hx=>by
  obtain ⟨o',e1⟩:=a.there c ob q hx
  exact b.there c o' e1 hx
 tups:=fun c xs q=>b.tups c xs (a.tups c xs q)
 iu:=fun c ob xs q=>b.iu c ob xs (a.iu c ob xs q)
 jA:=fun c ps q=>by
  obtain ⟨m1,e1⟩:=a.jA c ps q
  obtain ⟨m2,e2⟩:=b.jA c _ e1
  exact ⟨m1 ++ m2,by rw [e2,Tab.assoc]⟩
theorem Un.kept (k:∀ b u,h.get? b=some u->h'.get? b=some u):Un fs ex H H h h' :=
 ⟨fun b ob q _ _ _=>k b ob q,fun b ob q _ _ _=>⟨ob.slots,k b ob q⟩,fun _ _ _ n _=>n,fun b ob q _=>⟨ob,k b ob q⟩,fun _ _ q=>q,fun _ _ _ q=>q,fun _ ps q=>⟨#[],by rw [q,Tab.nil]⟩⟩
theorem Un.refl:Un fs ex H H h h:=Un.kept fun _ _ q=>q
theorem Un.laid (k:∀ b u,h.get? b=some u->h'.get? b=some u) (hp:h.objs.size<=a) (hn:H a=none):Un fs ex H (upd H a o) h h' where
 keep:=fun b u q _ _ _=>k b u q
 slot:=fun b u q _ _ _=>⟨u.slots,k b u q⟩
 free:=fun b u q n _=>by rw [aq (Nat.ne_of_lt (Nat.lt_of_lt_of_le (Heap.lt_size q) hp))]; exact n
 there:=fun b u q _=>⟨u,k b u q⟩
 tups:=fun b xs q=>by rw [aq (bh q hn)]; exact q
 iu:=fun b u xs q=>by rw [aq (bh q hn)]; exact q
 jA:=fun b ps q=>⟨#[],by rw [aq (bh q hn),q,Tab.nil]⟩
theorem Un.write (mu:Mut (H x)) (he:e=x∨H e=some (.own x)) (k:∀ b u,b≠e->h.get? b=some u->h'.get? b=some u) (heo:∃ u,h'.get? e=some u):Un fs ex H (upd H x o) h h':=by
 have hx:∀ b,H b=none->b≠x:=fun b n z=>by subst z; rw [n] at mu; exact mu
 have hb:∀ b,H b=none->b≠e:=fun b n z=>by
  subst z
  rcases he with r | r
  ·exact hx b n r
  ·rw [n] at r; cases r
 have hm:∀ b u,H b=some u->¬ Mut (some u)->b≠x:=fun b u q nm z=>by subst z; rw [q] at mu; exact nm mu
 refine ⟨fun b u q n _ _=>k b u (hb b n) q,fun b u q n _ _=>⟨u.slots,k b u (hb b n) q⟩,fun b u q n _=>by rw [aq (hx b n)]; exact n,fun b u q _=>?_,
  fun b xs q=>by rw [aq (hm b _ q fun z=>z)]; exact q,fun b u xs q=>by rw [aq (hm b _ q fun z=>z)]; exact q,fun b ps q=>⟨#[],by rw [aq (hm b _ q fun z=>z),q,Tab.nil]⟩⟩
 by_cases hbe:b=e
 ·subst hbe; exact heo
 ·exact ⟨u,k b u hbe q⟩
theorem Un.mono (u:Un fs ex H H1 h h1) (hs:∀ b∈fs,b∈fs') (hx:∀ b∈ex,b∈ex'):Un fs' ex' H H1 h h1 :=
 ⟨fun b ob q n hb he=>u.keep b ob q n (fun z=>hb (hs b z)) fun z=>he (hx b z),fun _ _ q n _ he=>u.any q n fun z=>he (hx _ z),fun b ob q n he=>u.free b ob q n fun z=>he (hx b z),fun b ob q he=>u.there b ob q fun z=>he (hx b z),u.tups,u.iu,u.jA⟩
end
noncomputable def Bb (h:Heap) (H:Hp):List Addr:=(List.range h.objs.size).filter fun a=>(H a).isSome
noncomputable def zO (h:Heap) (H:Hp):Heap:=PySem.W.hideAll h (Bb h H)
theorem JF (h:Heap) (H:Hp):(zO h H).objs.size=h.objs.size:=PySem.W.hideAll_size _ _
theorem Ol {h:Heap} {H:Hp} {b:Addr} {o:Obj} (e:h.get? b=some o) (n:H b=none):(zO h H).get? b=some o :=
 PySem.W.hideAll_get _ e fun hm=>by
  have q:(H b).isSome=true:=(List.mem_filter.mp hm).2
  rw [n] at q; simp at q
theorem RJ {h:Heap} {H:Hp} {b:Addr} {o:Obj} (e:(zO h H).get? b=some o):h.get? b=some o/\H b=none:=by
 have e':h.get? b=some o:=PySem.W.of_hideAll (Bb h H) e
 refine ⟨e',?_⟩
 cases q:H b with
 | none=>rfl
 | some x =>
  have hm:b∈Bb h H:=List.mem_filter.mpr ⟨List.mem_range.mpr (Heap.lt_size e'),by simp [q]⟩
  have z:(zO h H).get? b=none:=PySem.W.hideAll_none (Bb h H) hm
  rw [z] at e; cases e
noncomputable def Ua (g h:Heap) (L:Addr):List (Addr×Obj):=(List.range h.objs.size).filterMap fun a=>if a=L∨(g.get? a).isSome=true then none else (h.get? a).map fun o=>(a,o)
noncomputable def rest (g h:Heap) (L d:Addr):List (Addr×Obj):=(Ua g h L).filter fun p=>decide (p.1≠d)
end L2
namespace L2
open PySem PySem.Spec PyProof.Rows
noncomputable def HdS (A:Around) (h:Heap):Prop:=∀ v,A.handled=some v->∃ x o vs,v = .ref x/\h.get? x=some o/\o.data = .fields vs/\vs[2]? = some .none
section
variable {prog:Program} {w:World} {A:Around} {E:Value->Shared->Prop} {s:Shared}
theorem wK:entryFor table "proto.unchain" = some Builtin.«proto.unchain»:=entryFor_of_tree (by kernel_rfl)
theorem Ls {α:Type} {a:Addr} {o:Obj} {vs:Array Value} {Q:α->Shared->Prop} (hh:HdS A s.heap) (ho:s.heap.get? a=some o) (hd:o.data = .fields vs) (hz:2 < vs.size)
  (hE:∀ h' o',h'.get? a=some o'->o'.cls=o.cls->Heap.SameBut a s.heap h'->E (.ref a) { s with heap:=h' }):wpAny (model prog w) A (raiseNew (.ref a)) Q E s:=by
 obtain ⟨oc,od,dt,sl⟩:=o
 cases hd
 unfold raiseNew
 refine wpAny_bind (wpAny_handled ?_)
 cases q:A.handled with
 | none=>exact wpAny_throw (hE s.heap _ ho rfl (Heap.SameBut.refl ..))
 | some v =>
  obtain ⟨x,ox,ws,rfl,hx,hxd,hx2⟩:=hh v q
  show wpAny _ _ (if (Value.ref x != Value.ref a)=true then _ else _) _ _ s
  by_cases e:(Value.ref x != Value.ref a)=true
  ·rw [if_pos e]
   refine wpAny_bind (wpAny_holding (wpAny_runValue (codeAny_builtin wK ?_)))
   unfold Builtin.«proto.unchain»
   refine wpAny_bind (wpAny_field hx hxd hx2 ?_)
   refine wpAny_pure ?_
   show wpAny _ _ (updateField a 2 (.ref x) >>= _) _ _ s
   unfold updateField
   refine wpAny_bind (wpAny_bind (wpAny_load ho ?_))
   show wpAny _ _ (if 2 < vs.size then _ else _) _ _ s
   rw [if_pos hz]
   refine wpAny_update ho (wpAny_throw ?_)
   exact hE _ _ (Heap.get?_update_self _ ho rfl) rfl (Heap.SameBut.update ..)
  ·rw [if_neg e]
   exact wpAny_throw (hE s.heap _ ho rfl (Heap.SameBut.refl ..))
theorem Iv {α:Type} {it:Addr} {Q:α->Shared->Prop} (hh:HdS A s.heap) (k:∀ h' a o,h'.get? a=some o->o.cls = .type "StopIteration"->Heap.ExtBut it s.heap h'->E (.ref a) { s with heap:=h' }) :
  wpAny (model prog w) A (do let e <- newExc (.type "StopIteration") []; raiseNew e) Q E s:=by
 refine wpAny_bind ?_
 simp only [newExc,newTuple]
 refine wpAny_bind (wpAny_newObj_type (wpAny_bind (m:=firstArgMember _ _) (wpAny_of_eq (a:=Value.none) (by first | rfl | (simp only [firstArgMember]; rfl)) (wpAny_newObj_type ?_ (by size_fits)))) (by size_fits))
 refine Ls (vs:=#[.ref s.heap.objs.size,.none,.none,.none,.bool false,.none] ++ ownMembersOf (.type "StopIteration") []) (fun v q=>?_) (Heap.get?_push_size _ rfl) rfl (by simp [ownMembersOf]) fun h' o' e1 e2 sb=>k _ _ _ e1 e2 fun b o hb e=>?_
 ·obtain ⟨x,o,vs,e,h1,h2,h3⟩:=hh v q
  exact ⟨x,o,vs,e,Heap.get?_push_of_some _ (Heap.get?_push_of_some _ h1),h2,h3⟩
 ·refine (sb.2 b ?_).trans (Heap.get?_push_of_some _ (Heap.get?_push_of_some _ e))
  have h2:(s.heap.push { cls:=.type "tuple",data:=.seq #[] }).objs.size=s.heap.objs.size + 1:=by simp [Heap.push]
  have h3:s.heap.objs.size<=(s.heap.push { cls:=.type "tuple",data:=.seq #[] }).objs.size:=by lia
  rintro rfl
  exact absurd (Nat.lt_of_lt_of_le (Heap.lt_size e) h3) (Nat.lt_irrefl _)
theorem Et {it:Addr} {x left c:Int} {Q:Option Value->Shared->Prop} (hh:HdS A s.heap) (hI:IsRangeIter s.heap it x left c) (z:left<=0) (k:∀ h',Heap.ExtBut it s.heap h'->Q none { s with heap:=h' }):wpAny (model prog w) A (pyNext (.ref it)) Q E s:=by
 have ty:s.TypeIs (.ref it) "range_iterator":=⟨_,hI,rfl⟩
 unfold pyNext
 refine wpAny_bind (wpAny_attempt (wpAny_callSpecial?_slot (name:=Str.ofString "__next__") ty F.slot_range_iterator_next (wpAny_call_entry F.slot_range_iterator_next ty F.entry_range_iterator_next ?_ (F.args_range_iterator_next_1 _))))
 refine (show wpAny _ _ (do let a <- field (.ref it) 0; _) _ _ s from wpAny_bind (wpAny_field hI rfl (x:=rawInt x) rfl ?_))
 refine (show wpAny _ _ (do let a <- field (.ref it) 1; _) _ _ s from wpAny_bind (wpAny_field hI rfl (x:=rawInt left) rfl ?_))
 refine (show wpAny _ _ (do let a <- field (.ref it) 2; _) _ _ s from wpAny_bind (wpAny_field hI rfl (x:=rawInt c) rfl ?_))
 show wpAny _ _ (ite (left<=0) _ _) _ _ s
 rw [if_pos z]
 refine wpAny_bind (wpAny_rule (wpAny_bind (Iv (it:=it) hh fun h' a o e1 e2 eb=>?_)))
 exact wpAny_bind (wpAny_isInstance (T:="StopIteration") (b:=true) ⟨_,e1,e2⟩ isSubtype_stop (wpAny_pure (k _ eb)))
end
end L2
namespace L2
open PySem PySem.Spec PyProof.Rows
structure Mod (K:PySem.W.Frag) (mg:Str->Option Value) (base:Heap):Prop where
 ZF:K.In base
 glob:base.Ns mainGlobals mg
 blt:∃ mb,base.Ns builtinsNs mb/\∀ x:Str,x≠"__name__"->mb x=bootBuiltins x
 nolimit:base.NoLimit
 ac7:∃ mm,base.Ns sysModules mm
noncomputable def Gs (A:Around) (H:Hp):Prop:=∀ v,A.handled=some v->∃ x o u vs,v = .ref x/\H x=some (.bK o u)/\o.data = .fields vs/\vs[2]? = some .none
theorem Gs.mono {A:Around} {H H':Hp} (x:Gs A H) (f:∀ b o u,H b=some (.bK o u)->H' b=some (.bK o u)):Gs A H':=fun v q =>
 let ⟨x,o,u,vs,e,h,r⟩:=x v q; ⟨x,o,u,vs,e,f _ _ _ h,r⟩
theorem Gs.hds {P:Program} {w:World} {A:Around} {H:Hp} {h:Heap} (x:Gs A H) (k:ni P w H h):HdS A h:=fun v q =>
 let ⟨x,o,u,vs,e,y,r⟩:=x v q; ⟨x,o,vs,e,(show aJ P w H h x (.bK o u) from k _ _ y).1,r⟩
structure Cx where
 prog:Program
 w:World
 K:PySem.W.Frag
 mg:Str->Option Value
 base:Heap
 A:Around
 N:List Str
 s₀:Shared
 H₀:Hp
 env:Env
 outer:List Env
 stack:List Env
 ex:List Addr
 fn:Str->Bool
 calm:Bool
 pn:List (Addr×Obj)
 xe:Value->Shared->Prop
noncomputable def frs (l:List Env):List Addr:=l.filterMap (·.frame)
noncomputable abbrev Cx.fs (X:Cx):List Addr:=frs X.outer
noncomputable def Vis (sc:Scope) (x:Str):Prop:=sc.names.lookup x=some .local∨sc.names.lookup x=some .cell∨sc.names.lookup x=some .free
noncomputable def Loc (sc:Scope) (x:Str):Prop:=sc.names.lookup x=some .local∨sc.names.lookup x=some .cell
noncomputable def Look (env:Env) (h:Heap) (m:Str->Option Value) (x:Str) (u:Value):Prop :=
 (env.kindOf x=some .local/\m x=some u)∨((env.kindOf x=some .cell∨env.kindOf x=some .free)/\∃ c,env.cells.lookup x=some c/\h.IsCell c (some u))
structure Cx.Ok (X:Cx):Prop where
 mod:Mod X.K X.mg X.base
 kind:X.env.scope.kind = .function
 glob:X.env.globals=mainGlobals
 blt:X.env.builtins=builtinsNs
 above:X.s₀.heap.objs.size<=X.env.locals
 inj:∀ x y c,X.env.cells.lookup x=some c->X.env.cells.lookup y=some c->x=y
 has:∀ x,(X.env.kindOf x=some .cell∨X.env.kindOf x=some .free)->∃ c,X.env.cells.lookup x=some c
 cab:∀ x c,X.fn x=true->X.env.cells.lookup x=some c->X.s₀.heap.objs.size<=c
 hd:X.calm=true->X.A.handled=none
 frames:X.A.frames=some X.stack
 stk:X.stack=X.outer∨(X.stack=X.env :: X.outer/\X.env.frame=some X.env.locals)
 exf:∀ b∈X.ex,b≠X.env.locals/\∀ x c,X.env.cells.lookup x=some c->c≠b
 bs:∀ b o,X.base.get? b=some o->X.s₀.heap.get? b=some o/\X.H₀ b=none
 J5:X.base.objs.size<=X.s₀.heap.objs.size
 BJ:∀ b o,X.base.get? b=some o->b ∉ X.ex
 Gd:∀ b∈X.ex,b ∉ X.fs
 oF:X.s₀.heap.FunFrames X.base X.outer
 Qf:∀ b∈X.fs,X.H₀ b=none
structure Inv (X:Cx) (pins:List (Addr×Obj)) (σ:List (Option V)) (H:Hp) (s:Shared):Prop where
 ok:X.Ok
 os:s.os=X.s₀.os
 bare:AllBare s.gens
 base:Un X.fs X.ex X.H₀ H X.s₀.heap s.heap
 loc:∃ m,s.heap.Ns X.env.locals m/\∀ (i:Nat) (x:Str) (v:V),X.N[i]? = some x->σ[i]? = some (some v)->Vis X.env.scope x->∃ u,RelV v u/\Look X.env s.heap m x u
 cell:∀ x c,X.env.cells.lookup x=some c->∃ v,s.heap.IsCell c v
 free:H X.env.locals=none
 cD:∀ x c,X.env.cells.lookup x=some c->H c=none
 pin:∀ p∈X.pn ++ pins,s.heap.get? p.1=some p.2/\H p.1=none/\p.1≠X.env.locals/\p.1 ∉ X.fs/\∀ v,p.2.data≠.cell v
 hok:ni X.prog X.w H s.heap
 len:σ.length=X.N.length
 hh:Gs X.A H
section
variable {X:Cx} {pins:List (Addr×Obj)} {σ:List (Option V)} {H H':Hp} {s:Shared} {h':Heap}
theorem Cx.Ok.abz (ok:X.Ok) {b:Addr} {o:Obj} (e:X.base.get? b=some o):b ∉ X.fs:=fun hb=>by
 have:=(ok.oF.mem hb).1
 rw [e] at this; cases this
theorem Inv.bs (I:Inv X pins σ H s):∀ b o,X.base.get? b=some o->s.heap.get? b=some o/\H b=none:=fun b o e =>
 ⟨I.base.keep b o (I.ok.bs b o e).1 (I.ok.bs b o e).2 (I.ok.abz e) (I.ok.BJ b o e),I.base.free b o (I.ok.bs b o e).1 (I.ok.bs b o e).2 (I.ok.BJ b o e)⟩
theorem Inv.bk (I:Inv X pins σ H s):∀ b o,X.base.get? b=some o->s.heap.get? b=some o:=fun b o e=>(I.bs b o e).1
theorem Inv.mod (I:Inv X pins σ H s):Mod X.K X.mg X.base:=I.ok.mod
theorem Inv.tu (I:Inv X pins σ H s):X.K.In s.heap:=I.ok.mod.ZF.keeps I.bk
theorem Inv.nolimit (I:Inv X pins σ H s):s.heap.NoLimit:=I.ok.mod.nolimit.keeps I.bk
theorem Inv.fr (I:Inv X pins σ H s):∃ m,Fr X.base X.env.locals s.heap m :=
 let ⟨m,hn,_⟩:=I.loc
 ⟨m,hn,I.bk,Nat.le_trans I.ok.J5 I.ok.above⟩
theorem Inv.lt (I:Inv X pins σ H s):X.env.locals < s.heap.objs.size:=let ⟨_,hn,_⟩:=I.loc; hn.lt
theorem Inv.sz (I:Inv X pins σ H s):X.s₀.heap.objs.size<=s.heap.objs.size:=Nat.le_trans I.ok.above (Nat.le_of_lt I.lt)
theorem Inv.aby (I:Inv X pins σ H s) {a:Addr} (h:s.heap.objs.size<=a):a ∉ X.fs:=fun hb=>by
 obtain ⟨_,o,ho,_⟩:=I.ok.oF.mem hb
 exact absurd (Nat.lt_of_lt_of_le (Heap.lt_size ho) (Nat.le_trans I.sz h)) (Nat.lt_irrefl _)
theorem Inv.Tv (I:Inv X pins σ H s):∀ x c,X.env.cells.lookup x=some c->c≠X.env.locals:=fun x c e z=>by
 obtain ⟨v,o,ho,hd⟩:=I.cell x c e
 obtain ⟨m,⟨o',es,ep,ho',hd',_⟩,_⟩:=I.loc
 rw [z,ho'] at ho; cases ho; rw [hd'] at hd; cases hd
theorem Inv.oF (I:Inv X pins σ H s):s.heap.FunFrames X.base X.outer:=by
 have all:∀ (l:List Env),(∀ b∈frs l,b∈X.fs)->X.s₀.heap.FunFrames X.base l->s.heap.FunFrames X.base l:=by
  intro l
  induction l with
  | nil=>intro _ _; trivial
  | cons env r ih =>
   intro hs hl
   obtain ⟨hk,⟨L,o,hf,hn,ho,hd⟩,hr⟩:=hl
   have hL:L∈X.fs:=hs L (by unfold frs; rw [List.filterMap_cons,hf]; exact List.mem_cons_self)
   obtain ⟨sl,e⟩:=I.base.slot L o ho (I.ok.Qf L hL) hL fun z=>I.ok.Gd L z hL
   exact ⟨hk,⟨L,_,hf,hn,e,hd⟩,ih (fun b hb=>hs b (by unfold frs; rw [List.filterMap_cons,hf]; exact List.mem_cons_of_mem _ hb)) hr⟩
 exact all X.outer (fun _ hb=>hb) I.ok.oF
theorem Inv.stack (I:Inv X pins σ H s):s.heap.FunFrames X.base X.stack:=by
 rcases I.ok.stk with e | ⟨e,hf⟩
 ·rw [e]; exact I.oF
 ·rw [e]
  obtain ⟨m,hn,_⟩:=I.loc
  refine .cons (by rw [I.ok.kind]; decide) hf hn ?_ I.oF
  exact Heap.get?_none_of_le (Nat.le_trans I.ok.J5 I.ok.above)
theorem Inv.yM (I:Inv X pins σ H s):∀ b∈frs X.stack,b∈X.env.locals :: X.fs:=fun b hb=>by
 rcases I.ok.stk with e | ⟨e,hf⟩
 ·rw [e] at hb; exact List.mem_cons_of_mem _ hb
 ·rw [e] at hb
  unfold frs at hb
  rw [List.filterMap_cons,hf] at hb
  exact hb
theorem Inv.yN (I:Inv X pins σ H s):∀ b∈frs X.stack,H b=none:=fun b hb=>by
 rcases List.mem_cons.mp (I.yM b hb) with e | hb
 ·rw [e]; exact I.free
 ·obtain ⟨_,o,ho,_⟩:=I.ok.oF.mem hb
  exact I.base.free b o ho (I.ok.Qf b hb) fun z=>I.ok.Gd b z hb
theorem Inv.step {g':Array GenState} {t':Nat} {d':Drawn} {ch:List Addr} (I:Inv X pins σ H s)
  (hch:∀ b∈ch,(b∈X.ex∨X.s₀.heap.objs.size<=b)/\b≠X.env.locals/\(∀ x c,X.env.cells.lookup x=some c->c≠b)/\∀ p∈X.pn ++ pins,p.1≠b)
  (keep:∀ b o,b≠X.env.locals->b ∉ X.fs->b ∉ ch->s.heap.get? b=some o->H b=none->h'.get? b=some o)
  (slot:∀ b o,b≠X.env.locals->b∈X.fs->b ∉ ch->s.heap.get? b=some o->H b=none->∃ sl,h'.get? b=some { o with slots:=sl }) (free:∀ b o,b ∉ ch->s.heap.get? b=some o->H b=none->H' b=none)
  (there:∀ b o,b ∉ ch->s.heap.get? b=some o->∃ o',h'.get? b=some o')
  (tups:∀ b xs,H b=some (.tup xs)->H' b=some (.tup xs)) (iu:∀ b o u,H b=some (.bK o u)->H' b=some (.bK o u)) (jA:∀ b ps,H b=some (.Em ps)->∃ more:Array Value,H' b=some (.Em (ps ++ more)))
  (ns:∀ m,s.heap.Ns X.env.locals m->h'.Ns X.env.locals m) (hok:ni X.prog X.w H' h') (hg:AllBare g') :
  Inv X pins σ H' { s with heap:=h',gens:=g',drawn:=d',toks:=t' }:=by
 have Yo:∀ b o,X.s₀.heap.get? b=some o->b≠X.env.locals:=fun b o e=>Nat.ne_of_lt (Nat.lt_of_lt_of_le (Heap.lt_size e) I.ok.above)
 have Uz:∀ b o,X.s₀.heap.get? b=some o->b ∉ X.ex->b ∉ ch:=fun b o e hx hb=>by
  rcases (hch b hb).1 with z | z
  ·exact hx z
  ·exact absurd (Nat.lt_of_lt_of_le (Heap.lt_size e) z) (Nat.lt_irrefl _)
 have cellK:∀ x c,X.env.cells.lookup x=some c->∀ v,s.heap.IsCell c v->h'.IsCell c v:=fun x c e v ⟨o,ho,hd⟩=>by
  have UG:c ∉ ch:=fun z=>(hch c z).2.2.1 x c e rfl
  by_cases hc:c∈X.fs
  ·obtain ⟨sl,q⟩:=slot c o (I.Tv x c e) hc UG ho (I.cD x c e)
   exact ⟨_,q,hd⟩
  ·exact ⟨o,keep c o (I.Tv x c e) hc UG ho (I.cD x c e),hd⟩
 refine ⟨I.ok,I.os,hg,⟨fun b o e n hb hx=>?_,fun b o e n hb hx=>?_,fun b o e n hx=>?_,fun b o e hx=>?_,fun b xs e=>tups b xs (I.base.tups b xs e),fun b o xs e=>iu b o xs (I.base.iu b o xs e),fun b ps e=>?_⟩,?_,fun x c e=>?_,?_,fun x c e=>?_,fun p hp=>?_,hok,I.len,I.hh.mono iu⟩
 ·exact keep b o (Yo b o e) hb (Uz b o e hx) (I.base.keep b o e n hb hx) (I.base.free b o e n hx)
 ·obtain ⟨sl,e1⟩:=I.base.slot b o e n hb hx
  obtain ⟨sl',e2⟩:=slot b _ (Yo b o e) hb (Uz b o e hx) e1 (I.base.free b o e n hx)
  exact ⟨sl',e2⟩
 ·obtain ⟨o',e1⟩:=I.base.there b o e hx
  exact free b o' (Uz b o e hx) e1 (I.base.free b o e n hx)
 ·obtain ⟨o',e1⟩:=I.base.there b o e hx
  exact there b o' (Uz b o e hx) e1
 ·obtain ⟨m1,e1⟩:=I.base.jA b ps e
  obtain ⟨m2,e2⟩:=jA b _ e1
  exact ⟨m1 ++ m2,by rw [e2,Tab.assoc]⟩
 ·obtain ⟨m,hn,hl⟩:=I.loc
  refine ⟨m,ns m hn,fun i x v e1 e2 e3=>?_⟩
  obtain ⟨u,r,l⟩:=hl i x v e1 e2 e3
  refine ⟨u,r,?_⟩
  rcases l with l | ⟨k,c,e,z⟩
  ·exact .inl l
  ·exact .inr ⟨k,c,e,cellK x c e _ z⟩
 ·obtain ⟨v,z⟩:=I.cell x c e
  exact ⟨v,cellK x c e v z⟩
 ·obtain ⟨m,⟨o,_,_,ho,_⟩,_⟩:=I.loc
  exact free _ o (fun z=>(hch _ z).2.1 rfl) ho I.free
 ·obtain ⟨v,o,ho,hd⟩:=I.cell x c e
  exact free c o (fun z=>(hch c z).2.2.1 x c e rfl) ho (I.cD x c e)
 ·obtain ⟨e,n,ne,nf,d⟩:=I.pin p hp
  have UG:p.1 ∉ ch:=fun z=>(hch p.1 z).2.2.2 p hp rfl
  exact ⟨keep p.1 p.2 ne nf UG e n,free p.1 p.2 UG e n,ne,nf,d⟩
theorem Inv.un {t':Nat} (I:Inv X pins σ H s) (u:Un X.fs [] H H' s.heap h') (hok:ni X.prog X.w H' h'):Inv X pins σ H' { s with heap:=h',toks:=t' }:=by
 obtain ⟨m,⟨o,es,ep,ho,r⟩,_⟩:=id I.loc
 obtain ⟨sl,hL⟩:=u.any ho I.free (by simp)
 exact I.step (g':=s.gens) (d':=s.drawn) (ch:=[]) (fun _ z=>nomatch z) (fun b o _ hb _ e n=>u.keep b o e n hb (by simp)) (fun b o _ hb _ e n=>u.slot b o e n hb (by simp)) (fun b o _ e n=>u.free b o e n (by simp)) (fun b o _ e=>u.there b o e (by simp)) u.tups u.iu u.jA (fun m' hm=>by
  obtain ⟨o',es',ep',ho',r'⟩:=hm
  rw [ho] at ho'; cases ho'
  exact ⟨_,es',ep',hL,r'⟩) hok I.bare
theorem Inv.call {g':Array GenState} {t':Nat} {d':Drawn} {ch:List Addr} (I:Inv X pins σ H s) (u:Un (frs X.stack) ch H H' s.heap h') (hok:ni X.prog X.w H' h') (hg:AllBare g')
  (hch:∀ b∈ch,(b∈X.ex∨X.s₀.heap.objs.size<=b)/\b≠X.env.locals/\(∀ x c,X.env.cells.lookup x=some c->c≠b)/\∀ p∈X.pn ++ pins,p.1≠b) :
  Inv X pins σ H' { s with heap:=h',gens:=g',drawn:=d',toks:=t' }:=by
 obtain ⟨m,⟨o,es,ep,ho,r⟩,_⟩:=id I.loc
 obtain ⟨sl,hL⟩:=u.any ho I.free fun z=>(hch _ z).2.1 rfl
 exact I.step (ch:=ch) hch (fun b o hL hb hc e n=>u.keep b o e n (fun z=>(List.mem_cons.mp (I.yM b z)).elim hL hb) hc) (fun b o _ _ hc e n=>u.any e n hc) (fun b o hc e n=>u.free b o e n hc) (fun b o hc e=>u.there b o e hc) u.tups u.iu u.jA (fun m' hm=>by
  obtain ⟨o',es',ep',ho',r'⟩:=hm
  rw [ho] at ho'; cases ho'
  exact ⟨_,es',ep',hL,r'⟩) hok hg
theorem Inv.turned {t':Nat} {it:Addr} (I:Inv X pins σ H s) (k:∀ b o,b≠it->s.heap.get? b=some o->h'.get? b=some o) (hn:H it=none) (hL:it≠X.env.locals)
  (h1:it∈X.ex∨X.s₀.heap.objs.size<=it) (h2:∀ x c,X.env.cells.lookup x=some c->c≠it) (h3:∀ p∈X.pn ++ pins,p.1≠it):Inv X pins σ H { s with heap:=h',toks:=t' }:=by
 have nit:∀ b u,H b=some u->b≠it:=fun b u e z=>by rw [z,hn] at e; cases e
 refine I.step (g':=s.gens) (d':=s.drawn) (ch:=[it]) (fun b hb=>?_) (fun b o _ _ hc e _=>k b o (fun z=>hc (by simp [z])) e) (fun b o _ _ hc e _=>⟨o.slots,k b o (fun z=>hc (by simp [z])) e⟩) (fun _ _ _ _ n=>n)
  (fun b o hc e=>⟨o,k b o (fun z=>hc (by simp [z])) e⟩) (fun _ _ e=>e) (fun _ _ _ e=>e) (fun b ps e=>⟨#[],by rw [e,Tab.nil]⟩) (fun m hm=>?_) (fun b u e=>?_) I.bare
 ·have e:b=it:=by simpa using hb
  subst e
  exact ⟨h1,hL,h2,h3⟩
 ·obtain ⟨o,es,ep,ho,r⟩:=hm
  exact ⟨o,es,ep,k _ o (Ne.symm hL) ho,r⟩
 ·refine (I.hok b u e).stay (fun c v hc q=>k c v ?_ q) (fun _ q=>q) fun _ _ q=>q
  rcases hc with z | z
  ·rw [z]; exact nit b u e
  ·exact nit c _ z
theorem Inv.tok (I:Inv X pins σ H s) (t:Nat):Inv X pins σ H { s with toks:=t }:=I.un (h':=s.heap) (t':=t) Un.refl I.hok
theorem Inv.kept {t':Nat} (I:Inv X pins σ H s) (k:∀ b u,s.heap.get? b=some u->h'.get? b=some u):Inv X pins σ H { s with heap:=h',toks:=t' }:=I.un (Un.kept k) (I.hok.kept k)
theorem Inv.laid {a:Addr} {o:HO} {t':Nat} (I:Inv X pins σ H s) (k:∀ b u,s.heap.get? b=some u->h'.get? b=some u) (hp:s.heap.objs.size<=a) (new:aJ X.prog X.w (upd H a o) h' a o) :
  Inv X pins σ (upd H a o) { s with heap:=h',toks:=t' }:=I.un (Un.laid k hp (I.hok.fresh hp)) (I.hok.laid k hp new)
theorem Inv.write {x e:Addr} {o:HO} {t':Nat} (I:Inv X pins σ H s) (mu:Mut (H x)) (he:e=x∨H e=some (.own x)) (k:∀ b u,b≠e->s.heap.get? b=some u->h'.get? b=some u) (heo:∃ u,h'.get? e=some u)
  (new:aJ X.prog X.w (upd H x o) h' x o):Inv X pins σ (upd H x o) { s with heap:=h',toks:=t' }:=I.un (Un.write mu he k heo) (I.hok.write mu he k heo new)
theorem Inv.weak {σ':List (Option V)} (I:Inv X pins σ H s) (hl:σ'.length=σ.length) (w:∀ (i:Nat) v,σ'[i]? = some (some v)->σ[i]? = some (some v)):Inv X pins σ' H s :=
 ⟨I.ok,I.os,I.bare,I.base,let ⟨m,hn,hl'⟩:=I.loc; ⟨m,hn,fun i x v e1 e2 e3=>hl' i x v e1 (w i v e2) e3⟩,I.cell,I.free,I.cD,I.pin,I.hok,hl.trans I.len,I.hh⟩
theorem Inv.pK {rF:List (Addr×Obj)} (I:Inv X pins σ H s) (h:∀ p∈rF,s.heap.get? p.1=some p.2/\H p.1=none/\p.1≠X.env.locals/\p.1 ∉ X.fs/\∀ v,p.2.data≠.cell v):Inv X rF σ H s :=
 ⟨I.ok,I.os,I.bare,I.base,I.loc,I.cell,I.free,I.cD,fun p hp=>(List.mem_append.mp hp).elim (fun z=>I.pin p (List.mem_append_left _ z)) (h p),I.hok,I.len,I.hh⟩
theorem BK {N:List Str} (hN:N.Nodup) {i j:Nat} {x:Str} (a:N[i]? = some x) (b:N[j]? = some x):i=j:=by
 obtain ⟨h1,e1⟩:=List.getElem?_eq_some_iff.mp a
 obtain ⟨h2,e2⟩:=List.getElem?_eq_some_iff.mp b
 exact (List.getElem_inj hN).mp (e1.trans e2.symm)
theorem wY {M:Model} {A:Around} {E:Value->Shared->Prop} {i:Nat} {x:Str} {v:V} {u:Value} {Q:Unit->Shared->Prop} (I:Inv X pins σ H s) (hN:X.N.Nodup) (hi:X.N[i]? = some x) (hx:Loc X.env.scope x) (r:RelV v u)
  (h:∀ s',Inv X pins (σ.set i (some v)) H s'->(∃ a,Heap.SameBut a s.heap s'.heap/\(a=X.env.locals∨X.env.cells.lookup x=some a))->Q () s') (hf:X.fn x=true∨X.env.scope.names.lookup x=some .local:=by first | exact .inl rfl | exact .inr rfl | assumption):wpAny M A (storeName X.env x u) Q E s:=by
 obtain ⟨m,hn,hl⟩:=id I.loc
 have hcls:(X.env.scope.kind == .class || (X.env.scope.kind == .module && X.env.locals != X.env.globals))=false:=by rw [I.ok.kind]; rfl
 have ZW:i < σ.length:=by rw [I.len]; exact (List.getElem?_eq_some_iff.mp hi).1
 have Tv:=I.Tv
 have tracked:∀ {a:Addr} {h':Heap},(∃ o,s.heap.get? a=some o/\H a=none)->Heap.SameBut a s.heap h'->ni X.prog X.w H h':=fun {a h'} ha hs b ob e=>by
  obtain ⟨_,_,hfree⟩:=ha
  refine (I.hok b ob e).stay (fun c w' hc q=>(hs.2 c ?_).trans q) (fun _ q=>q) fun _ _ q=>q
  rintro rfl
  rcases hc with rfl | hc
  ·rw [hfree] at e; cases e
  ·rw [hfree] at hc; cases hc
 rcases hx with hk | hk
 ·refine wpAny_storeName_local hk hn (fun h' hn' hs=>?_) hcls
  obtain ⟨oL,_,_,hoL,_⟩:=id hn
  refine h _ ⟨I.ok,I.os,I.bare,⟨fun b o e n hb hx=>?_,fun b o e n hb hx=>?_,I.base.free,fun b o e hx=>?_,I.base.tups,I.base.iu,I.base.jA⟩,⟨_,hn',fun j y v' e1 e2 e3=>?_⟩,fun y c e=>?_,I.free,I.cD,fun p hp=>?_,tracked ⟨oL,hoL,I.free⟩ hs,by simpa using I.len,I.hh⟩ ⟨_,hs,.inl rfl⟩
  ·exact (hs.2 b (Nat.ne_of_lt (Nat.lt_of_lt_of_le (Heap.lt_size e) I.ok.above))).trans (I.base.keep b o e n hb hx)
  ·obtain ⟨sl,e1⟩:=I.base.slot b o e n hb hx
   exact ⟨sl,(hs.2 b (Nat.ne_of_lt (Nat.lt_of_lt_of_le (Heap.lt_size e) I.ok.above))).trans e1⟩
  ·obtain ⟨o',e1⟩:=I.base.there b o e hx
   exact ⟨o',(hs.2 b (Nat.ne_of_lt (Nat.lt_of_lt_of_le (Heap.lt_size e) I.ok.above))).trans e1⟩
  ·by_cases hj:j=i
   ·subst hj
    rw [hi] at e1; cases e1
    rw [List.getElem?_set_self ZW] at e2
    cases e2
    exact ⟨u,r,.inl ⟨hk,by simp⟩⟩
   ·rw [List.getElem?_set_ne (Ne.symm hj)] at e2
    obtain ⟨u',r',q⟩:=hl j y v' e1 e2 e3
    refine ⟨u',r',?_⟩
    rcases q with ⟨k,e⟩ | ⟨k,c,e,z⟩
    ·refine .inl ⟨k,?_⟩
     have:y≠x:=fun e=>hj (BK hN e1 (e ▸ hi))
     simp [this,e]
    ·exact .inr ⟨k,c,e,z.sameBut hs (Tv y c e)⟩
  ·obtain ⟨w',z⟩:=I.cell y c e
   exact ⟨w',z.sameBut hs (Tv y c e)⟩
  ·obtain ⟨e,n,ne,nf,d⟩:=I.pin p hp
   exact ⟨(hs.2 p.1 ne).trans e,n,ne,nf,d⟩
 ·have hfn:X.fn x=true:=by
   rcases hf with z | z
   ·exact z
   ·rw [z] at hk; cases hk
  obtain ⟨c,hc⟩:=I.ok.has x (.inl hk)
  obtain ⟨w',z⟩:=I.cell x c hc
  refine wpAny_storeName_cell I.ok.kind hk hc z (fun h' hc' hs=>?_)
  obtain ⟨oc,hoc,abL⟩:=id z
  refine h { s with heap:=h' } ⟨I.ok,I.os,I.bare,⟨fun b o e n hb hx=>?_,fun b o e n hb hx=>?_,I.base.free,fun b o e hx=>?_,I.base.tups,I.base.iu,I.base.jA⟩,⟨m,hn.sameBut hs (Ne.symm (Tv x c hc)),fun j y v' e1 e2 e3=>?_⟩,fun y c' e=>?_,I.free,I.cD,fun p hp=>?_,tracked ⟨oc,hoc,I.cD x c hc⟩ hs,by simpa using I.len,I.hh⟩ ⟨c,hs,.inr hc⟩
  ·exact (hs.2 b (Nat.ne_of_lt (Nat.lt_of_lt_of_le (Heap.lt_size e) (I.ok.cab x c hfn hc)))).trans (I.base.keep b o e n hb hx)
  ·obtain ⟨sl,e1⟩:=I.base.slot b o e n hb hx
   exact ⟨sl,(hs.2 b (Nat.ne_of_lt (Nat.lt_of_lt_of_le (Heap.lt_size e) (I.ok.cab x c hfn hc)))).trans e1⟩
  ·obtain ⟨o',e1⟩:=I.base.there b o e hx
   exact ⟨o',(hs.2 b (Nat.ne_of_lt (Nat.lt_of_lt_of_le (Heap.lt_size e) (I.ok.cab x c hfn hc)))).trans e1⟩
  ·by_cases hj:j=i
   ·subst hj
    rw [hi] at e1; cases e1
    rw [List.getElem?_set_self ZW] at e2
    cases e2
    exact ⟨u,r,.inr ⟨.inl hk,c,hc,hc'⟩⟩
   ·rw [List.getElem?_set_ne (Ne.symm hj)] at e2
    obtain ⟨u',r',q⟩:=hl j y v' e1 e2 e3
    refine ⟨u',r',?_⟩
    rcases q with q | ⟨k,c',e,z'⟩
    ·exact .inl q
    ·refine .inr ⟨k,c',e,z'.sameBut hs ?_⟩
     rintro rfl
     exact hj (BK hN e1 (I.ok.inj _ _ _ e hc ▸ hi))
  ·by_cases hcc:c'=c
   ·subst hcc; exact ⟨_,hc'⟩
   ·obtain ⟨w2,z2⟩:=I.cell y c' e
    exact ⟨w2,z2.sameBut hs hcc⟩
  ·obtain ⟨e,n,ne,nf,d⟩:=I.pin p hp
   refine ⟨(hs.2 p.1 ?_).trans e,n,ne,nf,d⟩
   intro q
   rw [q,hoc] at e
   have q':oc=p.2:=Option.some.inj e
   exact d w' (by rw [<- q']; exact abL)
theorem lO {M:Model} {A:Around} {E:Value->Shared->Prop} {i:Nat} {x:Str} {v:V} {u:Value} {Q:Unit->Shared->Prop} (I:Inv X pins σ H s) (hN:X.N.Nodup) (hi:X.N[i]? = some x) (hx:Loc X.env.scope x) (r:RelV v u)
  (h:∀ s',Inv X pins (σ.set i (some v)) H s'->Q () s') (hf:X.fn x=true∨X.env.scope.names.lookup x=some .local:=by first | exact .inl rfl | exact .inr rfl | assumption):wpAny M A (storeName X.env x u) Q E s :=
 wY I hN hi hx r (fun s' I' _=>h s' I') hf
theorem Inv.call' {s':Shared} {ch:List Addr} (I:Inv X pins σ H s) (ho:s'.os=s.os) (u:Un (frs X.stack) ch H H' s.heap s'.heap) (hok:ni X.prog X.w H' s'.heap) (hg:AllBare s'.gens)
  (hch:∀ b∈ch,(b∈X.ex∨X.s₀.heap.objs.size<=b)/\b≠X.env.locals/\(∀ x c,X.env.cells.lookup x=some c->c≠b)/\∀ p∈X.pn ++ pins,p.1≠b):Inv X pins σ H' s':=by
 obtain ⟨h',g',d',t',o'⟩:=s'
 have e:o'=s.os:=ho
 subst e
 exact I.call (g':=g') (t':=t') (d':=d') u hok hg hch
end
noncomputable abbrev XK:=Value->Option Addr->Hp->Prop
noncomputable abbrev St:=List (Option V)
noncomputable abbrev VK:=V->Hp->Prop
noncomputable abbrev TE:=St->Hp->VK->Prop
noncomputable abbrev TT:=St->Hp->(Bool->Hp->Prop)->Prop
noncomputable abbrev TA:=St->Hp->(List V->Hp->Prop)->Prop
structure Ends where
 nx:St->Hp->Prop
 rt:VK
 bk:St->Hp->Prop:=fun _ _=>False
 ct:St->Hp->Prop:=fun _ _=>False
noncomputable abbrev TS:=Ends->St->Hp->Prop
noncomputable def EP (X:Cx) (pins:List (Addr×Obj)) (σ:St) (Q:VK) (u:Value) (s':Shared):Prop:=∃ v H',Inv X pins σ H' s'/\RelV v u/\Q v H'
noncomputable def TP (X:Cx) (pins:List (Addr×Obj)) (σ:St) (Q:Bool->Hp->Prop) (b:Bool) (s':Shared):Prop:=∃ H',Inv X pins σ H' s'/\Q b H'
noncomputable def AP (X:Cx) (pins:List (Addr×Obj)) (σ:St) (Q:List V->Hp->Prop) (us:List Value) (s':Shared):Prop:=∃ vs H',Inv X pins σ H' s'/\Vals vs us/\Q vs H'
noncomputable def SP (X:Cx) (pins:List (Addr×Obj)) (D:Ends) (f:Flow) (s':Shared):Prop :=
 match f with
 | .next=>∃ σ' H',Inv X pins σ' H' s'/\D.nx σ' H'
 | .brk=>∃ σ' H',Inv X pins σ' H' s'/\D.bk σ' H'
 | .cont=>∃ σ' H',Inv X pins σ' H' s'/\D.ct σ' H'
 | .ret u=>∃ v σ' H',Inv X pins σ' H' s'/\RelV v u/\D.rt v H'
noncomputable def PE (X:Cx) (e:Expr) (t:TE):Prop :=
 ∀ (pins:List (Addr×Obj)) (s:Shared) (σ:St) (H:Hp) (Q:VK),Inv X pins σ H s->t σ H Q->wpAny (model X.prog X.w) X.A (eval e X.env) (EP X pins σ Q) X.xe s
noncomputable def PT (X:Cx) (e:Expr) (t:TT):Prop :=
 ∀ (pins:List (Addr×Obj)) (s:Shared) (σ:St) (H:Hp) (Q:Bool->Hp->Prop),Inv X pins σ H s->t σ H Q->wpAny (model X.prog X.w) X.A (isTrue e X.env (eval e X.env)) (TP X pins σ Q) X.xe s
noncomputable def PW (X:Cx) (e:Expr) (t:TT):Prop :=
 ∀ (whole:Sem Value) (pins:List (Addr×Obj)) (s:Shared) (σ:St) (H:Hp) (Q:Bool->Hp->Prop),Inv X pins σ H s->t σ H Q->wpAny (model X.prog X.w) X.A (isTrue e X.env whole) (TP X pins σ Q) X.xe s
theorem PW.pt {X:Cx} {e:Expr} {t:TT} (h:PW X e t):PT X e t:=h _
noncomputable def PA (X:Cx) (es:List Expr) (t:TA):Prop :=
 ∀ (pos:Pos) (pins:List (Addr×Obj)) (s:Shared) (σ:St) (H:Hp) (Q:List V->Hp->Prop),Inv X pins σ H s->t σ H Q->wpAny (model X.prog X.w) X.A (spliced (backTo pos (starEach es X.env))) (AP X pins σ Q) X.xe s
noncomputable def PS (X:Cx) (st:Stmt) (t:TS):Prop :=
 ∀ (pins:List (Addr×Obj)) (s:Shared) (σ:St) (H:Hp) (D:Ends),Inv X pins σ H s->t D σ H->wpAny (model X.prog X.w) X.A (exec st X.env) (SP X pins D) X.xe s
noncomputable def vV (X:Cx) (st:List Stmt) (t:TS):Prop :=
 ∀ (pins:List (Addr×Obj)) (s:Shared) (σ:St) (H:Hp) (D:Ends),Inv X pins σ H s->t D σ H->wpAny (model X.prog X.w) X.A (execs st X.env) (SP X pins D) X.xe s
theorem bL {α:Type} {t:Sem α} {Q Q':α->Shared->Prop} {M:Model} {A:Around} {E:Value->Shared->Prop} {s:Shared} (h:wpAny M A t Q E s) (hQ:∀ a s,Q a s->Q' a s):wpAny M A t Q' E s:=wpAny_mono h hQ fun _ _ x=>x
end L2
namespace L2
open PySem PySem.Spec PyProof.Rows
section
variable {X:Cx}
theorem bin {a b:Expr} {ta tb:TE} (ha:PE X a ta) (hb:PE X b tb) {pins:List (Addr×Obj)} {s:Shared} {σ:St} {H:Hp} {R:V->V->Hp->Prop} (I:Inv X pins σ H s) (h:ta σ H fun x H1=>tb σ H1 fun y H2=>R x y H2)
  {α:Type} {Q:α->Shared->Prop} {f:Value->Value->Sem α}
  (hf:∀ v u s2 x y H2,Inv X pins σ H2 s2->RelV x v->RelV y u->R x y H2->wpAny (model X.prog X.w) X.A (f v u) Q X.xe s2) :
  wpAny (model X.prog X.w) X.A (eval a X.env) (fun v s₁=>wpAny (model X.prog X.w) X.A (eval b X.env) (fun u s₂=>wpAny (model X.prog X.w) X.A (f v u) Q X.xe s₂) X.xe s₁) X.xe s:=by
 refine bL (ha pins s σ H _ I h) fun v s1 ⟨x,H1,I1,r1,q1⟩=>?_
 refine bL (hb pins s1 σ H1 _ I1 q1) fun u s2 ⟨y,H2,I2,r2,q2⟩=>?_
 exact hf v u s2 x y H2 I2 r1 r2 q2
noncomputable def aa4 (i:Nat):TE:=fun σ H Q=>∃ v,σ[i]? = some (some v)/\Q v H
noncomputable def tC (v:V):TE:=fun _ H Q=>Q v H
theorem Wn {i:Nat} {x:Str} {pos:Pos} (hN:X.N[i]? = some x) (hv:Vis X.env.scope x) (hd:(x == ("__debug__" : Str))=false:=by decide) (hcd:(x == ("__classdict__" : Str))=false:=by decide):PE X (.Name x pos) (aa4 i):=by
 intro pins s σ H Q I h
 obtain ⟨v,e,h⟩:=h
 obtain ⟨m,hn,hl⟩:=I.loc
 obtain ⟨u,r,l⟩:=hl i x v hN e hv
 have fin:EP X pins σ Q u s:=⟨v,H,I,r,h⟩
 rcases l with ⟨hk,hm⟩ | ⟨hk,c,hc,hcell⟩
 ·exact wpAny_Name (wpAny_loadName_local I.ok.kind hk hn hm fin) hd
 ·rcases hk with hk | hk
  ·exact wpAny_Name (wpAny_loadName_cell I.ok.kind hk hc hcell fin) hd
  ·exact wpAny_Name (wpAny_loadName_free I.ok.kind hk hc hcell fin hcd) hd
theorem EY {i j pos}:PE X (.Constant (.int i) j pos) (tC (.int i)):=fun _ _ _ H _ I h=>wpAny_Constant_int ⟨.int i,H,I.tok _,⟨_,rfl⟩,h⟩
theorem Zh {b j pos}:PE X (.Constant (.bool b) j pos) (tC (.bl b)):=fun _ _ _ H _ I h=>Constant_bool ⟨.bl b,H,I,rfl,h⟩
theorem Wq {j pos}:PE X (.Constant .none j pos) (tC .non):=fun _ _ _ H _ I h=>Constant_none ⟨.non,H,I,rfl,h⟩
theorem Ez {x j pos}:PE X (.Constant (.str x) j pos) (tC (.str x)):=fun _ _ _ H _ I h=>Calls.Constant_str ⟨.str x,H,I.tok _,⟨_,rfl⟩,h⟩
noncomputable def Gl (X:Cx) (x:Str):Prop:=X.env.kindOf x=some .globalImplicit
theorem j5 {E:Value->Shared->Prop} {pins:List (Addr×Obj)} {s:Shared} {σ:St} {H:Hp} {x:Str} {u:Value} {pos:Pos} {Q:Value->Shared->Prop} (I:Inv X pins σ H s) (hg:Gl X x) (hm:X.mg x=some u) (h:Q u s)
  (hd:(x == ("__debug__" : Str))=false:=by decide):wpAny (model X.prog X.w) X.A (eval (.Name x pos) X.env) Q E s :=
 Calls.Name_function_global I.ok.kind hg (Calls.loadGlobal_global (by rw [I.ok.glob]; exact I.mod.glob.keeps I.bk) hm h) hd
theorem oA {E:Value->Shared->Prop} {pins:List (Addr×Obj)} {s:Shared} {σ:St} {H:Hp} {x:Str} {u:Value} {pos:Pos} {Q:Value->Shared->Prop} (I:Inv X pins σ H s) (hg:Gl X x) (hm:X.mg x=none) (hv:bootBuiltins x=some u) (h:Q u s)
  (hn:x≠"__name__":=by decide) (hd:(x == ("__debug__" : Str))=false:=by decide):wpAny (model X.prog X.w) X.A (eval (.Name x pos) X.env) Q E s:=by
 obtain ⟨mb,h1,h2⟩:=I.mod.blt
 exact Calls.Name_function_global I.ok.kind hg (Calls.loadGlobal_builtin (by rw [I.ok.glob]; exact I.mod.glob.keeps I.bk) hm (by rw [I.ok.blt]; exact h1.keeps I.bk) ((h2 x hn).trans hv) h) hd
theorem sJ {x:Str} {v:V} {u:Value} {pos:Pos} (hg:Gl X x) (hm:X.mg x=some u) (r:RelV v u) (hd:(x == ("__debug__" : Str))=false:=by decide):PE X (.Name x pos) (tC v) :=
 fun _ _ _ H _ I h=>j5 I hg hm ⟨v,H,I,r,h⟩ hd
theorem yV {x:Str} {v:V} {u:Value} {pos:Pos} (hg:Gl X x) (hm:X.mg x=none) (hv:bootBuiltins x=some u) (r:RelV v u) (hn:x≠"__name__":=by decide) (hd:(x == ("__debug__" : Str))=false:=by decide):PE X (.Name x pos) (tC v) :=
 fun _ _ _ H _ I h=>oA I hg hm hv ⟨v,H,I,r,h⟩ hn hd
variable {a b:Expr} {ta tb:TE} {pos:Pos}
variable {tA tB':TT} {rest:List Expr}
noncomputable def YX (t u:TT):TT:=fun σ H Q=>t σ H fun c H1=>if c=true then u σ H1 Q else Q false H1
noncomputable def tOr (t u:TT):TT:=fun σ H Q=>t σ H fun c H1=>if c=true then Q true H1 else u σ H1 Q
noncomputable def aa9 (t:TT):TT:=fun σ H Q=>t σ H fun c H1=>Q (!c) H1
theorem pw_and1 (ha:PT X a tA):PW X (.BoolOp .And [a] pos) tA:=by
 intro wh pins s σ H Q I h
 refine isTrue_and (bL (ha pins s σ H Q I h) fun c s1 e=>?_)
 cases c with
 | true=>exact isTrue_and_nil e
 | false=>exact e
theorem pw_or1 (ha:PT X a tA):PW X (.BoolOp .Or [a] pos) tA:=by
 intro wh pins s σ H Q I h
 refine isTrue_or (bL (ha pins s σ H Q I h) fun c s1 e=>?_)
 cases c with
 | false=>exact isTrue_or_nil e
 | true=>exact e
theorem pw_and (ha:PT X a tA) (hb:PW X (.BoolOp .And (b :: rest) pos) tB'):PW X (.BoolOp .And (a :: b :: rest) pos) (YX tA tB'):=by
 intro wh pins s σ H Q I h
 refine isTrue_and (bL (ha pins s σ H _ I h) fun c s1 ⟨H1,I1,q1⟩=>?_)
 cases c with
 | true=>exact hb wh pins s1 σ H1 Q I1 q1
 | false=>exact ⟨H1,I1,q1⟩
theorem pw_or (ha:PT X a tA) (hb:PW X (.BoolOp .Or (b :: rest) pos) tB'):PW X (.BoolOp .Or (a :: b :: rest) pos) (tOr tA tB'):=by
 intro wh pins s σ H Q I h
 refine isTrue_or (bL (ha pins s σ H _ I h) fun c s1 ⟨H1,I1,q1⟩=>?_)
 cases c with
 | true=>exact ⟨H1,I1,q1⟩
 | false=>exact hb wh pins s1 σ H1 Q I1 q1
theorem Wf (ha:PT X a tA):PT X (.UnaryOp .Not a pos) (aa9 tA):=by
 intro pins s σ H Q I h
 exact isTrue_not (ha pins s σ H (fun c H1=>Q (!c) H1) I h)
noncomputable def Uo (ta tb:TE):TE:=fun σ H Q=>ta σ H fun x H1=>∃ c,x = .bl c/\if c=true then tb σ H1 Q else Q (.bl false) H1
noncomputable def YH (ta tb:TE):TE:=fun σ H Q=>ta σ H fun x H1=>∃ c,x = .bl c/\if c=true then Q (.bl true) H1 else tb σ H1 Q
noncomputable def YK (ta:TE):TE:=fun σ H Q=>ta σ H fun x H1=>∃ c,x = .bl c/\Q (.bl (!c)) H1
theorem Mq {op} {t:TE} (h:PE X a t):PE X (.BoolOp op [a] pos) t:=fun pins s σ H Q I hw=>BoolOp_one (h pins s σ H Q I hw)
theorem MN (ha:PE X a ta) (hb:PE X (.BoolOp .And (b :: rest) pos) tb):PE X (.BoolOp .And (a :: b :: rest) pos) (Uo ta tb):=by
 intro pins s σ H Q I h
 refine BoolOp_and (bL (ha pins s σ H _ I h) fun v s1 ⟨x,H1,I1,r1,q1⟩=>?_)
 obtain ⟨c,rfl,q1⟩:=q1
 cases r1
 refine wpAny_truthy_bool ?_
 cases c with
 | true=>exact hb pins s1 σ H1 Q I1 q1
 | false=>exact ⟨.bl false,H1,I1,rfl,q1⟩
theorem Uu (ha:PE X a ta) (hb:PE X (.BoolOp .Or (b :: rest) pos) tb):PE X (.BoolOp .Or (a :: b :: rest) pos) (YH ta tb):=by
 intro pins s σ H Q I h
 refine BoolOp_or (bL (ha pins s σ H _ I h) fun v s1 ⟨x,H1,I1,r1,q1⟩=>?_)
 obtain ⟨c,rfl,q1⟩:=q1
 cases r1
 refine wpAny_truthy_bool ?_
 cases c with
 | false=>exact hb pins s1 σ H1 Q I1 q1
 | true=>exact ⟨.bl true,H1,I1,rfl,q1⟩
theorem Wo (ha:PE X a ta):PE X (.UnaryOp .Not a pos) (YK ta):=by
 intro pins s σ H Q I h
 refine UnaryOp_ (bL (ha pins s σ H _ I h) fun v s1 ⟨x,H1,I1,r1,q1⟩=>?_)
 obtain ⟨c,rfl,q1⟩:=q1
 cases r1
 exact not_of (wpAny_truthy_bool ⟨.bl (!c),H1,I1,rfl,q1⟩)
end
end L2
namespace L2
open PySem PySem.Spec PyProof.Rows
noncomputable def lg (K:PySem.W.Frag) (H:Hp) (a:Addr) (xs:List V):Prop :=
 Rd H a (.lst xs) ∨
  ∃ (o:Obj) (its:Array Value) (n:Nat),K.lookup a=some o/\o.cls = .type "list"/\o.dict=none/\o.data = .seq its n/\its.size<=sizeLine/\Vals xs its.toList
noncomputable def qu (K:PySem.W.Frag) (H:Hp) (a:Addr) (xs:List V):Prop :=
 Rd H a (.tup xs) ∨
  ∃ (o:Obj) (its:Array Value) (n:Nat),K.lookup a=some o/\o.cls = .type "tuple"/\o.data = .seq its n/\its.size<=sizeLine/\Vals xs its.toList
noncomputable def ab3:Value->Option V
 | .none=>some .non
 | .bool b=>some (.bl b)
 | .int i _=>some (.int i)
 | .str x _=>some (.str x)
 | .bytes b _=>some (.X3 b)
 | .float b _=>some (.flt b)
 | .ref a=>some (.ref a)
 | .type n=>some (.ty n)
 | _=>none
theorem RelV.abs {x:V} {u:Value} (r:RelV x u):ab3 u=some x:=by
 cases x with
 | non=>cases r; rfl
 | bl _=>cases r; rfl
 | int _=>obtain ⟨t,rfl⟩:=r; rfl
 | str _=>obtain ⟨t,rfl⟩:=r; rfl
 | X3 _=>obtain ⟨t,rfl⟩:=r; rfl
 | flt _=>obtain ⟨t,rfl⟩:=r; rfl
 | ref _=>cases r; rfl
 | ty _=>cases r; rfl
theorem RelV.inj {x y:V} {u:Value} (r:RelV x u) (q:RelV y u):x=y:=Option.some.inj (r.abs.symm.trans q.abs)
theorem Vals.inj:∀ {xs ys:List V} {us:List Value},Vals xs us->Vals ys us->xs=ys
 | _,_,_,.nil,.nil=>rfl
 | _,_,_,.cons r t,.cons r' t'=>by rw [r.inj r',Vals.inj t t']
section
variable {X:Cx} {pins:List (Addr×Obj)} {σ:St} {H:Hp} {s:Shared} {a:Addr} {xs ys:List V}
theorem lg.of {K:PySem.W.Frag} (h:H a=some (.lst xs)):lg K H a xs:=.inl (.inl h)
theorem qu.of {K:PySem.W.Frag} (h:H a=some (.tup xs)):qu K H a xs:=.inl (.inl h)
theorem Inv.list (I:Inv X pins σ H s) (h:lg X.K H a xs):∃ its:List Value,Vals xs its/\PlainL s.heap a its.toArray/\xs.length<=sizeLine:=by
 rcases h with h | ⟨o,its,n,hk,hc,hd,hs,hz,r⟩
 ·obtain ⟨z,its,n,r,e⟩:=h.ok I.hok
  exact ⟨its,r,⟨_,n,e,rfl,rfl,rfl⟩,z⟩
 ·refine ⟨its.toList,r,⟨o,n,I.tu a o hk,hc,hd,by simpa using hs⟩,?_⟩
  have e:=r.length
  simp only [Array.length_toList] at e
  lia
theorem Inv.tuple (I:Inv X pins σ H s) (h:qu X.K H a xs):∃ its:List Value,Vals xs its/\IsTup s.heap a its.toArray/\xs.length<=sizeLine:=by
 rcases h with h | ⟨o,its,n,hk,hc,hs,hz,r⟩
 ·obtain ⟨z,its,r,p⟩:=h.ok I.hok
  exact ⟨its,r,p.is,z⟩
 ·refine ⟨its.toList,r,⟨o,I.tu a o hk,hc,n,by simpa using hs⟩,?_⟩
  have e:=r.length
  simp only [Array.length_toList] at e
  lia
theorem Inv.NP (I:Inv X pins σ H s) (h:lg X.K H a xs) (h':lg X.K H a ys):xs=ys:=by
 obtain ⟨its,r,⟨o,n,e,_,_,d⟩,_⟩:=I.list h
 obtain ⟨its',r',⟨o',n',e',_,_,d'⟩,_⟩:=I.list h'
 rw [e] at e'; cases e'
 rw [d] at d'
 injection d' with d1 _
 have:its=its':=by simpa using congrArg Array.toList d1
 subst this
 exact r.inj r'
theorem Inv.Ip (I:Inv X pins σ H s) (h:qu X.K H a xs) (h':qu X.K H a ys):xs=ys:=by
 obtain ⟨its,r,⟨o,e,_,n,d⟩,_⟩:=I.tuple h
 obtain ⟨its',r',⟨o',e',_,n',d'⟩,_⟩:=I.tuple h'
 rw [e] at e'; cases e'
 rw [d] at d'
 injection d' with d1 _
 have:its=its':=by simpa using congrArg Array.toList d1
 subst this
 exact r.inj r'
end
noncomputable abbrev Cx.wish (X:Cx) (E:Value->Shared->Prop):Cx:={ X with xe:=E }
noncomputable abbrev Cx.Ux (X:Cx):Cx:=X.wish fun _ _=>False
theorem Cx.Ok.wish {X:Cx} (ok:X.Ok) (E:Value->Shared->Prop):(X.wish E).Ok :=
 ⟨ok.mod,ok.kind,ok.glob,ok.blt,ok.above,ok.inj,ok.has,ok.cab,ok.hd,ok.frames,ok.stk,ok.exf,ok.bs,ok.J5,ok.BJ,ok.Gd,ok.oF,ok.Qf⟩
theorem Cx.Ok.jw {X:Cx} {E:Value->Shared->Prop} (ok:(X.wish E).Ok):X.Ok :=
 ⟨ok.mod,ok.kind,ok.glob,ok.blt,ok.above,ok.inj,ok.has,ok.cab,ok.hd,ok.frames,ok.stk,ok.exf,ok.bs,ok.J5,ok.BJ,ok.Gd,ok.oF,ok.Qf⟩
section
variable {X:Cx} {pins:List (Addr×Obj)} {σ:St} {H:Hp} {s:Shared} {E:Value->Shared->Prop}
theorem Inv.wish (I:Inv X pins σ H s) (E:Value->Shared->Prop):Inv (X.wish E) pins σ H s:=⟨I.ok.wish E,I.os,I.bare,I.base,I.loc,I.cell,I.free,I.cD,I.pin,I.hok,I.len,I.hh⟩
theorem Inv.jw (I:Inv (X.wish E) pins σ H s):Inv X pins σ H s:=⟨I.ok.jw,I.os,I.bare,I.base,I.loc,I.cell,I.free,I.cD,I.pin,I.hok,I.len,I.hh⟩
theorem SP.jw {D:Ends} {f:Flow} {s':Shared} (h:SP (X.wish E) pins D f s'):SP X pins D f s':=by
 cases f with
 | next=>obtain ⟨σ',H',I,q⟩:=h; exact ⟨σ',H',I.jw,q⟩
 | brk=>obtain ⟨σ',H',I,q⟩:=h; exact ⟨σ',H',I.jw,q⟩
 | cont=>obtain ⟨σ',H',I,q⟩:=h; exact ⟨σ',H',I.jw,q⟩
 | ret u=>obtain ⟨v,σ',H',I,r,q⟩:=h; exact ⟨v,σ',H',I.jw,r,q⟩
theorem PE.Ux {e:Expr} {t:TE} (h:PE X.Ux e t):PE X e t:=fun pins s σ H Q I hw =>
 wpAny_mono (h pins s σ H Q (I.wish _) hw) (fun _ _ ⟨v,H',I',r,q⟩=>⟨v,H',I'.jw,r,q⟩) fun _ _ z=>False.elim z
theorem PT.Ux {e:Expr} {t:TT} (h:PT X.Ux e t):PT X e t:=fun pins s σ H Q I hw =>
 wpAny_mono (h pins s σ H Q (I.wish _) hw) (fun _ _ ⟨H',I',q⟩=>⟨H',I'.jw,q⟩) fun _ _ z=>False.elim z
theorem vV.Ux {st:List Stmt} {t:TS} (h:vV X.Ux st t):vV X st t:=fun pins s σ H D I hw =>
 wpAny_mono (h pins s σ H D (I.wish _) hw) (fun _ _ q=>q.jw) fun _ _ z=>False.elim z
end
section
variable {X:Cx} {st:Stmt} {rest:List Stmt} {t u:TS} {e:Expr} {te:TE} {pos:Pos}
noncomputable def YM:TS:=fun D σ H=>D.nx σ H
noncomputable def aa6 (t u:TS):TS:=fun D σ H=>t { D with nx:=u D } σ H
theorem Q5:vV X [] YM:=fun _ _ σ H _ I h=>wpAny_execs_nil ⟨σ,H,I,h⟩
theorem Ly (h1:PS X st t) (h2:vV X rest u):vV X (st :: rest) (aa6 t u):=by
 intro pins s σ H D I h
 refine wpAny_execs_cons (bL (h1 pins s σ H { D with nx:=u D } I h) fun f s1 q=>?_)
 cases f with
 | next =>
  obtain ⟨σ',H',I',q⟩:=q
  exact h2 pins s1 σ' H' D I' q
 | ret v=>exact q
 | brk=>exact q
 | cont=>exact q
theorem Inv.quiet {pins:List (Addr×Obj)} {σ:St} {H:Hp} {s:Shared} (I:Inv X pins σ H s):interactive X.env=false:=by simp [interactive,I.ok.kind]
noncomputable def YQ (te:TE):TS:=fun D σ H=>te σ H fun _ H1=>D.nx σ H1
theorem GR (he:PE X e te) (hs:swapsWith e none pos.line X.env=pure false:=by rfl):PS X (.Expr e pos) (YQ te):=by
 intro pins s σ H D I h
 exact wpAny_Expr_any (bL (he pins s σ H _ I h) fun v s1 ⟨x,H1,I1,r1,q1⟩=>⟨σ,H1,I1,q1⟩) I.quiet hs
noncomputable def aa7 (te:TE):TS:=fun D σ H=>te σ H D.rt
theorem Wh (he:PE X e te):PS X (.Return (some e) pos) (aa7 te):=by
 intro pins s σ H D I h
 exact wpAny_Return_some (bL (he pins s σ H _ I h) fun v s1 ⟨x,H1,I1,r1,q1⟩=>⟨x,σ,H1,I1,r1,q1⟩)
noncomputable def abd (c:TT) (t u:TS):TS:=fun D σ H=>c σ H fun b H1=>if b=true then t D σ H1 else u D σ H1
theorem Zc {c:Expr} {a b:List Stmt} {tc:TT} (hc:PT X c tc) (ha:vV X a t) (hb:vV X b u):PS X (.If c a b pos) (abd tc t u):=by
 intro pins s σ H D I h
 refine wpAny_If (bL (hc pins s σ H _ I h) fun d s1 ⟨H1,I1,q1⟩=>?_)
 cases d with
 | true=>exact ha pins s1 σ H1 D I1 q1
 | false=>exact hb pins s1 σ H1 D I1 q1
end
noncomputable abbrev TG:=V->St->Hp->(St->Hp->Prop)->Prop
noncomputable abbrev Vg:=List V->St->Hp->(St->Hp->Prop)->Prop
noncomputable def PG (X:Cx) (target:Expr) (t:TG):Prop :=
 ∀ (pins:List (Addr×Obj)) (s:Shared) (σ:St) (H:Hp) (v:V) (u:Value) (Q:St->Hp->Prop),Inv X pins σ H s->RelV v u->t v σ H Q ->
  wpAny (model X.prog X.w) X.A (assign target X.env u) (fun _ s'=>∃ σ' H',Inv X pins σ' H' s'/\Q σ' H') X.xe s
noncomputable def Yv (X:Cx) (ts:List Expr) (t:Vg):Prop :=
 ∀ (pins:List (Addr×Obj)) (s:Shared) (σ:St) (H:Hp) (vs:List V) (us:List Value) (Q:St->Hp->Prop),Inv X pins σ H s->Vals vs us->t vs σ H Q ->
  wpAny (model X.prog X.w) X.A (assignInOrder ((assignEach ts X.env).map (·.2)) us) (fun _ s'=>∃ σ' H',Inv X pins σ' H' s'/\Q σ' H') X.xe s
noncomputable abbrev Yc:=V->V->V->Hp->(Hp->Prop)->Prop
noncomputable def Yg (X:Cx) (t:Yc):Prop :=
 ∀ (pins:List (Addr×Obj)) (s:Shared) (σ:St) (H:Hp) (o i v:V) (ov iv u:Value) (Q:Hp->Prop),Inv X pins σ H s->RelV o ov->RelV i iv->RelV v u->t o i v H Q ->
  wpAny (model X.prog X.w) X.A (setItem ov iv u) (fun _ s'=>∃ H',Inv X pins σ H' s'/\Q H') X.xe s
section
variable {X:Cx} {pos:Pos}
noncomputable def CJ (i:Nat):TG:=fun v σ H Q=>Q (σ.set i (some v)) H
theorem G3 {i:Nat} {x:Str} (hN:X.N.Nodup) (hi:X.N[i]? = some x) (hx:Loc X.env.scope x) (hf:X.fn x=true∨X.env.scope.names.lookup x=some .local:=by first | exact .inl rfl | exact .inr rfl | assumption):PG X (.Name x pos) (CJ i):=by
 intro pins s σ H v u Q I r h
 exact wpAny_assign_Name (lO I hN hi hx r (fun s' I'=>⟨_,H,I',h⟩) hf)
noncomputable def Z7:Vg:=fun vs σ H Q=>vs=[]/\Q σ H
noncomputable def U8 (t:TG) (u:Vg):Vg:=fun vs σ H Q=>∃ v r,vs=v :: r/\t v σ H fun σ' H'=>u r σ' H' Q
theorem Ri:Yv X [] Z7:=by
 intro pins s σ H vs us Q I r h
 obtain ⟨e,h⟩:=h
 subst e
 cases r
 exact assignInOrder_nil ⟨σ,H,I,h⟩
theorem Mi {e:Expr} {es:List Expr} {t:TG} {u:Vg} (h1:PG X e t) (h2:Yv X es u)
  (hs:(assignEach (e :: es) X.env).map (·.2)=assign e X.env :: (assignEach es X.env).map (·.2):=by rfl):Yv X (e :: es) (U8 t u):=by
 intro pins s σ H vs us Q I r h
 obtain ⟨v,vr,e1,h⟩:=h
 subst e1
 cases r with
 | cons r rr =>
  rw [hs]
  refine assignInOrder_cons (bL (h1 pins s σ H _ _ _ I r h) fun _ s1 ⟨σ1,H1,I1,q1⟩=>?_)
  exact h2 pins s1 σ1 H1 _ _ Q I1 rr q1
noncomputable def abS (K:PySem.W.Frag) (n:Nat) (t:Vg):TG:=fun v σ H Q=>∃ a xs,v = .ref a/\qu K H a xs/\xs.length=n/\t xs σ H Q
theorem Wk {es:List Expr} {k:Nat} {t:Vg} {n:Nat} (hc:X.calm=true) (h:Yv X es t)
  (hn:(assignEach es X.env).length=n:=by rfl) (hst:(assignEach es X.env).findIdx? (·.1)=none:=by rfl):PG X (.Tuple es k pos) (abS X.K n t):=by
 intro pins s σ H v u Q I r hw
 obtain ⟨a,xs,e1,hq,hl,hw⟩:=hw
 subst e1
 cases r
 obtain ⟨its,rv,ht,hz⟩:=I.tuple hq
 refine assign_Tuple_tuple (I.ok.hd hc) ht (by simp [hn,<- hl,rv.length]) hst fun h' hx=>?_
 have I1:Inv X pins σ H { s with heap:=h' }:=I.kept (t':=s.toks) fun b o e=>hx b o (Nat.ne_of_lt (Heap.lt_size e)) e
 exact h pins _ σ H xs _ Q I1 (by simpa using rv) hw
noncomputable def Z6 (to ti:TE) (t:Yc):TG:=fun v σ H Q=>to σ H fun o H1=>ti σ H1 fun i H2=>t o i v H2 fun H3=>Q σ H3
theorem Wm {o i:Expr} {to ti:TE} {t:Yc} (ho:PE X o to) (hi:PE X i ti) (hs:Yg X t)
  (ha:∀ v,assign (.Subscript o i pos) X.env v=(do
   let ov <- holding [v] (eval o X.env)
   let iv <- holding [v,ov] (eval i X.env)
   standAt pos
   holding [v,ov,iv] (setItem ov iv v)
   release [v,ov,iv] []):=by intro _; rfl):PG X (.Subscript o i pos) (Z6 to ti t):=by
 intro pins s σ H v u Q I r h
 rw [ha]
 refine wpAny_bind (wpAny_holding (bL (ho pins s σ H _ I h) fun ov s1 ⟨x,H1,I1,r1,q1⟩=>?_))
 refine wpAny_bind (wpAny_holding (bL (hi pins s1 σ H1 _ I1 q1) fun iv s2 ⟨y,H2,I2,r2,q2⟩=>?_))
 refine wpAny_bind (wpAny_standAt (wpAny_bind (wpAny_holding (bL (hs pins s2 σ H2 x y v ov iv u _ I2 r1 r2 r q2) fun _ s3 ⟨H3,I3,q3⟩=>?_))))
 exact wpAny_release ⟨σ,H3,I3,q3⟩
noncomputable def Iu (te:TE) (g:TG):TS:=fun D σ H=>te σ H fun x H1=>g x σ H1 D.nx
theorem LQ {tg e:Expr} {te:TE} {g:TG} (he:PE X e te) (hg:PG X tg g) (hs:swapsWithSole [tg] e pos.line X.env=pure false:=by rfl) (hw:swappedStores [tg] e X.env=pure none:=by rfl)
  (h1:(assignEach [tg] X.env).map (·.2)=[assign tg X.env]:=by rfl):PS X (.Assign [tg] e pos) (Iu te g):=by
 intro pins s σ H D I h
 refine wpAny_Assign_stores (bL (he pins s σ H _ I h) fun v s1 ⟨x,H1,I1,r1,q1⟩=>?_) hs hw
 rw [h1]
 exact bL (hg pins s1 σ H1 x v _ I1 r1 q1) fun _ s2 q=>q
theorem Ew {i:Nat} {x:Str} {e:Expr} {te:TE} {pos':Pos} (hN:X.N.Nodup) (hi:X.N[i]? = some x) (hx:Loc X.env.scope x) (he:PE X e te) (hs:swapsWith e (some (.Name x pos')) pos.line X.env=pure false:=by rfl) (hf:X.fn x=true∨X.env.scope.names.lookup x=some .local:=by first | exact .inl rfl | exact .inr rfl | assumption) :
  PS X (.Assign [.Name x pos'] e pos) (Iu te (CJ i)):=by
 intro pins s σ H D I h
 refine wpAny_Assign_Name (bL (he pins s σ H _ I h) fun v s1 ⟨y,H1,I1,r1,q1⟩=>?_) hs
 exact lO I1 hN hi hx r1 (fun s2 I2=>⟨_,H1,I2,q1⟩) hf
noncomputable def aa8 (i j:Nat) (ta:TA):TS:=fun D σ H=>ta σ H fun vs H1=>∃ v w,vs=[v,w]/\D.nx ((σ.set i (some v)).set j (some w)) H1
theorem Wi {i j:Nat} {x y:Str} {a b:Expr} {ta:TA} {px py pt:Pos} {kt k2 Ym} (hc:X.calm=true) (hN:X.N.Nodup) (hi:X.N[i]? = some x) (hj:X.N[j]? = some y) (hij:i≠j)
  (hx:X.env.scope.names.lookup x=some .local) (hy:X.env.scope.names.lookup y=some .local) (ha:PA X [a,b] ta)
  (hw:swappedStores [.Tuple [.Name x px,.Name y py] kt pt] (.Tuple [a,b] k2 Ym) X.env=pure (some [x,y]))
  (hs:swapsWithSole [.Tuple [.Name x px,.Name y py] kt pt] (.Tuple [a,b] k2 Ym) pos.line X.env=pure false:=by rfl) :
  PS X (.Assign [.Tuple [.Name x px,.Name y py] kt pt] (.Tuple [a,b] k2 Ym) pos) (aa8 i j ta):=by
 intro pins s σ H D I h
 rw [exec_Assign_arm]
 refine wpAny_bind (wpAny_standAt ?_)
 rw [hs]
 refine wpAny_bind (wpAny_pure ?_)
 rw [if_neg (by decide)]
 refine wpAny_bind (Tuple_ (bL (ha _ pins s σ H _ I h) fun us s1 ⟨vs,H1,I1,r1,q1⟩=>?_))
 obtain ⟨v,w,e1,q1⟩:=q1
 subst e1
 obtain ⟨u1,u2,rfl,rv,Er⟩:∃ u1 u2,us=[u1,u2]/\RelV v u1/\RelV w u2:=by
  cases r1 with
  | cons p q =>
   cases q with
   | cons p' q' =>
    cases q'
    exact ⟨_,_,rfl,p,p'⟩
 refine wpAny_newObj_type ?_ (by show 2<=sizeLine; decide)
 have I2:Inv X pins σ H1 { s1 with heap:=s1.heap.push { cls:=.type "tuple",data:=.seq [u1,u2].toArray } }:=I1.kept (t':=s1.toks) fun b o e=>Heap.get?_push_of_some _ e
 rw [hw]
 refine wpAny_bind (wpAny_pure ?_)
 show wpAny (model X.prog X.w) X.A (do rule "assign.swapped-stores"; let items <- unpackItems (.ref s1.heap.objs.size) 2 none; assignInOrder [fun v=>bindName X.env y v,fun v=>bindName X.env x v] items.reverse; pure Flow.next) _ _ _
 refine wpAny_bind (wpAny_rule (wpAny_bind (unpackItems_tuple (items:=#[u1,u2]) (I.ok.hd hc) (IsTup.new s1.heap _) fun h' hx'=>?_)))
 have I3:=I2.kept (h':=h') (t':=s1.toks) fun b o e=>hx' b o (Nat.ne_of_lt (Heap.lt_size e)) e
 show wpAny _ _ (assignInOrder [fun v=>bindName X.env y v,fun v=>bindName X.env x v] [u2,u1] >>= fun _=>pure Flow.next) _ _ _
 refine wpAny_bind (assignInOrder_cons (wpAny_bindName (lO I3 hN hj (.inl hy) Er (fun s2 I4=>?_) (.inr hy))))
 refine assignInOrder_cons (wpAny_bindName (lO I4 hN hi (.inl hx) rv (fun s3 I5=>assignInOrder_nil (wpAny_pure ?_)) (.inr hx)))
 rw [List.set_comm _ _ (Ne.symm hij)] at I5
 exact ⟨_,H1,I5,q1⟩
end
section
variable {X:Cx} {pos:Pos}
noncomputable def VR (c:TT) (tb:TS):TS:=fun D σ H=>∃ W:Nat->St->Hp->Prop,(∃ m,W m σ H)/\∀ m σ H,W m σ H ->
 c σ H fun b H1=>if b=true then ∃ N:St->Hp->Prop,(∀ σ' H',N σ' H'->∃ m',m' < m/\W m' σ' H')/\tb { D with nx:=N,ct:=N,bk:=D.nx } σ H1 else D.nx σ H1
theorem Lz {c:Expr} {body:List Stmt} {tc:TT} {tb:TS} (hp:PassesOwn (model X.prog X.w) X.A X.env X.xe) (hc:PT X c tc) (hb:vV X body tb):PS X (.While c body [] pos) (VR tc tb):=by
 intro pins s σ H D I h
 obtain ⟨W,⟨m0,w0⟩,turn⟩:=h
 refine wpAny_While (codeAny_whileLoop (fun n s'=>∃ σ' H',Inv X pins σ' H' s'/\W n σ' H') ?_ m0 ⟨σ,H,I,w0⟩)
 rintro n s1 ⟨σ1,H1,I1,w1⟩
 refine wpAny_passesOwn hp (bL (hc pins s1 σ1 H1 _ I1 (turn n σ1 H1 w1)) fun b s2 ⟨H2,I2,q2⟩=>?_)
 cases b with
 | true =>
  obtain ⟨N,hN,q2⟩:=q2
  rw [if_pos rfl]
  refine wpAny_passesOwn hp (bL (hb pins s2 σ1 H2 _ I2 q2) fun f s3 q3=>?_)
  cases f with
  | next =>
   obtain ⟨σ3,H3,I3,n3⟩:=q3
   obtain ⟨m',hm,w3⟩:=hN σ3 H3 n3
   exact ⟨m',hm,σ3,H3,I3,w3⟩
  | cont =>
   obtain ⟨σ3,H3,I3,n3⟩:=q3
   obtain ⟨m',hm,w3⟩:=hN σ3 H3 n3
   exact ⟨m',hm,σ3,H3,I3,w3⟩
  | brk=>exact q3
  | ret v=>exact q3
 | false =>
  rw [if_neg Bool.false_ne_true]
  exact wpAny_execs_nil ⟨σ1,H2,I2,q2⟩
end
structure It where
 go:Nat->Hp->Prop
 Yx:Nat->Hp->V->Hp->Prop
 stop:Nat->Hp->Prop
noncomputable def vK (X:Cx) (pins:List (Addr×Obj)) (H:Hp) (b:Addr):Prop :=
 H b=none/\b≠X.env.locals/\b ∉ X.fs/\(b∈X.ex∨X.s₀.heap.objs.size<=b)/\(∀ x c,X.env.cells.lookup x=some c->c≠b)/\∀ p∈X.pn ++ pins,p.1≠b
theorem Inv.JH {X:Cx} {pins:List (Addr×Obj)} {σ:St} {H H':Hp} {s:Shared} {b:Addr} (I:Inv X pins σ H s) (hb:s.heap.objs.size<=b) (hn:H' b=none):vK X pins H' b:=by
 refine ⟨hn,Nat.ne_of_gt (Nat.lt_of_lt_of_le I.lt hb),I.aby hb,.inr (Nat.le_trans I.sz hb),fun x c e z=>?_,fun p hp z=>?_⟩
 ·obtain ⟨v,q⟩:=I.cell x c e
  exact absurd (Nat.lt_of_lt_of_le q.lt (by rw [z]; exact hb)) (Nat.lt_irrefl _)
 ·exact absurd (Nat.lt_of_lt_of_le (Heap.lt_size (I.pin p hp).1) (by rw [z]; exact hb)) (Nat.lt_irrefl _)
structure Turn (cb:Bool) (P:Program) (w:World) (K:PySem.W.Frag) (tg:Expr) (J:It) (fp:List Addr) (it:Addr) (tn:Nat->Heap->Prop):Prop where
 mem:it∈fp
 obj:∀ i h,tn i h->∀ b∈fp,∃ o,h.get? b=some o/\∀ v,o.data≠.cell v
 keep:∀ i h h',tn i h->(∀ b∈fp,∀ o,h.get? b=some o->h'.get? b=some o)->tn i h'
 item:∀ (X:Cx),X.prog=P->X.w=w->X.K=K->X.calm=cb->∀ (i:Nat) (pins:List (Addr×Obj)) (s:Shared) (σ:St) (H:Hp) (E:Value->Shared->Prop),Inv X pins σ H s->(∀ b∈fp,vK X pins H b)->tn i s.heap->J.go i H ->
  wpAny (model P w) X.A (pyNext (.ref it)) (fun r s1=>∃ u,r=some u /\
   wpAny (model P w) X.A (letOwnedTupleGo tg (.ref it) u) (fun _ s2=>∃ x H',Inv X pins σ H' s2/\RelV x u/\J.Yx i H x H'/\tn (i + 1) s2.heap/\∀ b∈fp,H' b=none) E s1) E s
 done:∀ (X:Cx),X.prog=P->X.w=w->X.K=K->X.calm=cb->∀ (i:Nat) (pins:List (Addr×Obj)) (s:Shared) (σ:St) (H:Hp) (E:Value->Shared->Prop),Inv X pins σ H s->(∀ b∈fp,vK X pins H b)->tn i s.heap->J.stop i H ->
  wpAny (model P w) X.A (pyNext (.ref it)) (fun r s1=>r=none/\Inv X pins σ H s1) E s
 self:∀ (A:Around) (i:Nat) (s:Shared) (Q:Value->Shared->Prop) (E:Value->Shared->Prop),tn i s.heap->Q (.ref it) s->wpAny (model P w) A (pyIter (.ref it)) Q E s
noncomputable abbrev TI:=St->Hp->(It->Hp->Prop)->Prop
noncomputable def PIE (X:Cx) (pins:List (Addr×Obj)) (σ:St) (tg:Expr) (R:It->Hp->Prop) (itv:Value) (s2:Shared):Prop :=
 ∃ (it:Addr) (fp:List Addr) (tn:Nat->Heap->Prop) (J:It) (H':Hp),itv = .ref it/\Inv X pins σ H' s2/\Turn X.calm X.prog X.w X.K tg J fp it tn/\tn 0 s2.heap/\(∀ b∈fp,vK X pins H' b)/\R J H'
noncomputable def PI (X:Cx) (tg iter:Expr) (wi:TI):Prop :=
 ∀ (pins:List (Addr×Obj)) (s:Shared) (σ:St) (H:Hp) (R:It->Hp->Prop),Inv X pins σ H s->wi σ H R ->
  wpAny (model X.prog X.w) X.A (eval iter X.env) (fun v s1=>wpAny (model X.prog X.w) X.A (pyIter v) (PIE X pins σ tg R) X.xe s1) X.xe s
theorem Cz {M : Model} {A : Around} {E : Value -> Shared -> Prop} {s : Shared} {tg : Expr} {it : Addr} {u : Value} {o : Obj} {n : String} {vs : Array Value} {Q : Unit -> Shared -> Prop} (ho : s.heap.get? it = some o) (hc : o.cls = .type n) (hd : o.data = .fields vs)
    (hn : ["enumerate", "zip", "dict_itemiterator", "dict_reverseitemiterator", "odict_iterator", "itertools.zip_longest", "itertools.pairwise"].contains n = false) (hQ : Q () s) : wpAny M A (letOwnedTupleGo tg (.ref it) u) Q E s := by
  unfold letOwnedTupleGo
  cases tg <;> first
    | exact wpAny_pure hQ
    | (cases u <;> first
        | exact wpAny_pure hQ
        | (refine wpAny_bind (wpAny_load ho ?_)
           rw [hc, hd]
           show wpAny M A (if (["enumerate", "zip", "dict_itemiterator", "dict_reverseitemiterator", "odict_iterator", "itertools.zip_longest", "itertools.pairwise"].contains n && vs[0]? == some (rawInt _)) = true then _ else _) Q E s
           rw [if_neg (by intro h; rw [hn, Bool.false_and] at h; cases h)]
           exact wpAny_pure hQ))
noncomputable def Itl (K:PySem.W.Frag) (a:Addr):It :=
 ⟨fun i H=>∃ xs x,lg K H a xs/\xs[i]? = some x,fun i H x H'=>H'=H/\∀ xs,lg K H a xs->xs[i]? = some x,fun i H=>∃ xs,lg K H a xs/\xs.length<=i⟩
noncomputable def Itt (K:PySem.W.Frag) (a:Addr):It :=
 ⟨fun i H=>∃ xs x,qu K H a xs/\xs[i]? = some x,fun i H x H'=>H'=H/\∀ xs,qu K H a xs->xs[i]? = some x,fun i H=>∃ xs,qu K H a xs/\xs.length<=i⟩
noncomputable def Itr (lo:Int) (n:Nat):It:=⟨fun i _=>i < n,fun i H x H'=>H'=H/\x = .int (lo + i),fun i _=>n<=i⟩
theorem Im {cb:Bool} (hcb:cb=true) {P:Program} {w:World} {K:PySem.W.Frag} {tg:Expr} (a it:Addr):Turn cb P w K tg (Itl K a) [it] it (fun i h=>h.IsListIter it a i) where
 mem:=by simp
 obj:=fun i h st b hb=>by
  have e:b=it:=by simpa using hb
  subst e
  obtain ⟨o,e,c,d⟩:=st
  exact ⟨o,e,fun v z=>by rw [d] at z; cases z⟩
 keep:=fun i h h' st k=>st.at fun o e=>k it (by simp) o e
 item:=by
  intro X hP hw hK hc i pins s σ H E I hf st hg
  subst hP hw hK
  obtain ⟨xs,x,hq,hx⟩:=hg
  obtain ⟨its,rv,p,hz⟩:=I.list hq
  obtain ⟨u,hu,ru⟩:=rv.get hx
  obtain ⟨f0,f1,f2,f3,f4,f5⟩:=hf it (by simp)
  refine wpAny_pyNext_list_item st p.isList (x:=u) (by simpa using hu) fun h' st' sb=>?_
  have I1:Inv X pins σ H { s with heap:=h' }:=I.turned (t':=s.toks) (fun b o hb e=>(sb.2 b hb).trans e) f0 f1 f3 f4 f5
  obtain ⟨o,e,c,d⟩:=id st'
  exact ⟨u,rfl,Cz (s:={ s with heap:=h' }) e c d (by decide) ⟨x,H,I1,ru,⟨rfl,fun ys hy=>by rw [I.NP hy hq]; exact hx⟩,st',fun b hb=>(hf b hb).1⟩⟩
 done:=by
  intro X hP hw hK hc i pins s σ H E I hf st hg
  subst hP hw hK
  obtain ⟨xs,hq,hx⟩:=hg
  obtain ⟨its,rv,p,hz⟩:=I.list hq
  obtain ⟨f0,f1,f2,f3,f4,f5⟩:=hf it (by simp)
  have hl:=rv.length
  exact wpAny_pyNext_list_end (I.ok.hd (hc.trans hcb)) st p.isList (by simp; lia) fun h' eb=>⟨rfl,I.turned (t':=s.toks) (fun b o hb e=>eb b o hb e) f0 f1 f3 f4 f5⟩
 self:=fun _ _ _ _ _ st h=>wpAny_pyIter_listiter st h
theorem Ek {cb:Bool} (hcb:cb=true) {P:Program} {w:World} {K:PySem.W.Frag} {tg:Expr} (a it:Addr):Turn cb P w K tg (Itt K a) [it] it (fun i h=>h.IsTupleIter it a i) where
 mem:=by simp
 obj:=fun i h st b hb=>by
  have e:b=it:=by simpa using hb
  subst e
  obtain ⟨o,e,c,d⟩:=st
  exact ⟨o,e,fun v z=>by rw [d] at z; cases z⟩
 keep:=fun i h h' st k=>st.at fun o e=>k it (by simp) o e
 item:=by
  intro X hP hw hK hc i pins s σ H E I hf st hg
  subst hP hw hK
  obtain ⟨xs,x,hq,hx⟩:=hg
  obtain ⟨its,rv,p,hz⟩:=I.tuple hq
  obtain ⟨u,hu,ru⟩:=rv.get hx
  obtain ⟨f0,f1,f2,f3,f4,f5⟩:=hf it (by simp)
  refine wpAny_pyNext_tuple_item st (show s.heap.IsTuple a its.toArray from p) (x:=u) (by simpa using hu) fun h' st' sb=>?_
  have I1:Inv X pins σ H { s with heap:=h' }:=I.turned (t':=s.toks) (fun b o hb e=>(sb.2 b hb).trans e) f0 f1 f3 f4 f5
  obtain ⟨o,e,c,d⟩:=id st'
  exact ⟨u,rfl,Cz (s:={ s with heap:=h' }) e c d (by decide) ⟨x,H,I1,ru,⟨rfl,fun ys hy=>by rw [I.Ip hy hq]; exact hx⟩,st',fun b hb=>(hf b hb).1⟩⟩
 done:=by
  intro X hP hw hK hc i pins s σ H E I hf st hg
  subst hP hw hK
  obtain ⟨xs,hq,hx⟩:=hg
  obtain ⟨its,rv,p,hz⟩:=I.tuple hq
  obtain ⟨f0,f1,f2,f3,f4,f5⟩:=hf it (by simp)
  have hl:=rv.length
  exact wpAny_pyNext_tuple_end (I.ok.hd (hc.trans hcb)) st (show s.heap.IsTuple a its.toArray from p) (by simp; lia) fun h' eb=>⟨rfl,I.turned (t':=s.toks) (fun b o hb e=>eb b o hb e) f0 f1 f3 f4 f5⟩
 self:=fun _ _ _ _ _ st h=>wpAny_pyIter_tupleiter st h
theorem El {cb:Bool} {P:Program} {w:World} {K:PySem.W.Frag} {tg:Expr} (it:Addr) (lo:Int) (n:Nat):Turn cb P w K tg (Itr lo n) [it] it (fun i h=>IsRangeIter h it (lo + (i:Nat) * 1) ((n:Int) - (i:Nat)) 1) where
 mem:=by simp
 obj:=fun i h st b hb=>by
  have e:b=it:=by simpa using hb
  subst e
  exact ⟨_,st,fun v z=>by
   have z':Data.fields _=Data.cell v:=z
   cases z'⟩
 keep:=fun i h h' st k=>k it (by simp) _ st
 item:=by
  intro X hP hw hK hc i pins s σ H E I hf st hg
  subst hP hw hK
  obtain ⟨f0,f1,f2,f3,f4,f5⟩:=hf it (by simp)
  refine wpAny_pyNext_range_item st (by have:i < n:=hg; lia) fun h' st' sb=>?_
  have I1:Inv X pins σ H { s with heap:=h',toks:=s.toks + 1 }:=I.turned (fun b o hb e=>(sb.2 b hb).trans e) f0 f1 f3 f4 f5
  have e1:lo + ((i + 1:Nat):Int) * 1=lo + (i:Int) * 1 + 1:=by push_cast; lia
  have e2:(n:Int) - ((i + 1:Nat):Int)=(n:Int) - (i:Int) - 1:=by push_cast; lia
  refine ⟨_,rfl,Cz (s:={ s with heap:=h',toks:=s.toks + 1 }) (n:="range_iterator") st' rfl rfl (by decide) ⟨.int (lo + i),H,I1,⟨s.toks,?_⟩,⟨rfl,rfl⟩,by rw [e1,e2]; exact st',fun b hb=>(hf b hb).1⟩⟩
  rw [Int.mul_one]
 done:=by
  intro X hP hw hK hc i pins s σ H E I hf st hg
  subst hP hw hK
  obtain ⟨f0,f1,f2,f3,f4,f5⟩:=hf it (by simp)
  exact Et (I.hh.hds I.hok) st (by have:n<=i:=hg; lia) fun h' eb=>⟨rfl,I.turned (t':=s.toks) (fun b o hb e=>eb b o hb e) f0 f1 f3 f4 f5⟩
 self:=fun _ _ _ _ _ st h=>wpAny_pyIter_rangeiter st h
end L2
namespace L2
open PySem PySem.Spec PyProof.Rows
section
variable {X:Cx} {tg:Expr}
theorem Bp {pins:List (Addr×Obj)} {σ:St} {H:Hp} {s:Shared} {R:It->Hp->Prop} {E:Value->Shared->Prop} {lo hi:Int} {t u v:Tok} {tk:Nat} (I:Inv X pins σ H s) (h1 : -(2 ^ 62)<=lo) (h2:lo < 2 ^ 62) (h3 : -(2 ^ 62)<=hi) (h4:hi < 2 ^ 62)
  (q:R (Itr lo (hi - lo).toNat) H):wpAny (model X.prog X.w) X.A (pyIter (.ref s.heap.objs.size)) (PIE X pins σ tg R) E { s with heap:=s.heap.push { cls:=.type "range",data:=.fields #[.int lo t,.int hi u,.int 1 v] },toks:=tk }:=by
 refine wpAny_pyIter_range (IsRange.new ..) (small_one h1 h2 h3 h4) ?_
 have I1:Inv X pins σ H { s with heap:=s.heap.push { cls:=.type "range",data:=.fields #[.int lo t,.int hi u,.int 1 v] },toks:=tk }:=I.kept fun b o e=>Heap.get?_push_of_some _ e
 refine ⟨(s.heap.push { cls:=.type "range",data:=.fields #[.int lo t,.int hi u,.int 1 v] }).objs.size,[(s.heap.push { cls:=.type "range",data:=.fields #[.int lo t,.int hi u,.int 1 v] }).objs.size],_,_,H,rfl,
  I1.kept (t':=tk) fun b o e=>Heap.get?_push_of_some _ e,El _ lo (hi - lo).toNat,?_,fun b hb=>?_,q⟩
 ·have e1:lo + ((0:Nat):Int) * 1=lo:=by simp
  have e2:(((hi - lo).toNat:Nat):Int) - ((0:Nat):Int)=Builtin.Range.rangeSize lo hi 1:=by rw [rangeSize_one]; split <;> lia
  show IsRangeIter _ _ (lo + ((0:Nat):Int) * 1) ((((hi - lo).toNat:Nat):Int) - ((0:Nat):Int)) 1
  rw [e1,e2]
  exact Heap.get?_push_size _ rfl
 ·have e:b=(s.heap.push { cls:=.type "range",data:=.fields #[.int lo t,.int hi u,.int 1 v] }).objs.size:=by simpa using hb
  subst e
  exact I1.JH (Nat.le_refl _) (I1.hok.fresh (Nat.le_refl _))
noncomputable def ZR (ta:TA):TI:=fun σ H R=>ta σ H fun vs H1=>∃ j:Int,vs=[.int j]/\-(2 ^ 62)<=j/\j < 2 ^ 62/\R (Itr 0 j.toNat) H1
noncomputable def ZQ (ta:TA):TI:=fun σ H R=>ta σ H fun vs H1=>∃ i j:Int,vs=[.int i,.int j]/\(-(2 ^ 62)<=i/\i < 2 ^ 62/\-(2 ^ 62)<=j/\j < 2 ^ 62)/\R (Itr i (j - i).toNat) H1
theorem Ji {a:Expr} {ta:TA} {p pos:Pos} (hg:Gl X "range") (hm:X.mg "range" = none) (ha:PA X [a] ta) (hs:starEach [a] X.env=[(false,eval a X.env)]:=by rfl):PI X tg (.Call (.Name "range" p) [a] [] pos) (ZR ta):=by
 intro pins s σ H R I h
 refine Call_ (oA I hg hm boot_range (PyProof.Rows.callWith_type1 (bL (ha pos pins s σ H _ I h) fun us s1 ⟨vs,H1,I1,r1,q1⟩=>?_) hs rfl))
 obtain ⟨j,e,q1,q2,q⟩:=q1
 subst e
 cases r1 with
 | cons r rr =>
  cases rr
  obtain ⟨t,rfl⟩:=r
  exact call_range_1 (Bp I1 (by lia) (by lia) q1 q2 (by simpa using q))
theorem Jh {a b:Expr} {ta:TA} {p pos:Pos} (hg:Gl X "range") (hm:X.mg "range" = none) (ha:PA X [a,b] ta) (hs:starEach [a,b] X.env=[(false,eval a X.env),(false,eval b X.env)]:=by rfl) (hs2:starEach [b] X.env=[(false,eval b X.env)]:=by rfl) :
  PI X tg (.Call (.Name "range" p) [a,b] [] pos) (ZQ ta):=by
 intro pins s σ H R I h
 refine Call_ (oA I hg hm boot_range (PyProof.Rows.callWith_type1 (bL (ha pos pins s σ H _ I h) fun us s1 ⟨vs,H1,I1,r1,q1⟩=>?_) (by rw [hs,hs2]) (by rw [hs2]; rfl)))
 obtain ⟨i,j,e,⟨q1,q2,q3,q4⟩,q⟩:=q1
 subst e
 cases r1 with
 | cons r rr =>
  cases rr with
  | cons r' rr =>
   cases rr
   obtain ⟨t,rfl⟩:=r
   obtain ⟨t',rfl⟩:=r'
   exact call_range_2 (Bp I1 q1 q2 q3 q4 q)
noncomputable def abe (wi:TI) (g:TG) (tb:TS):TS:=fun D σ H=>wi σ H fun J H1=>∃ W:Nat->Nat->St->Hp->Prop,(∃ m,W 0 m σ H1)/\∀ i m σ H,W i m σ H ->
 (J.stop i H/\D.nx σ H)∨(J.go i H/\∃ N:St->Hp->Prop,(∀ σ' H',N σ' H'->∃ m',m' < m/\W (i + 1) m' σ' H')/\∀ x H',J.Yx i H x H'->g x σ H' fun σ2 H2=>tb { D with nx:=N,ct:=N,bk:=D.nx } σ2 H2)
noncomputable def uG (fp:List Addr) (h:Heap):List (Addr×Obj):=fp.filterMap fun b=>(h.get? b).map fun o=>(b,o)
theorem j4 {fp:List Addr} {h:Heap} {b:Addr} {o:Obj} (hb:b∈fp) (e:h.get? b=some o):(b,o)∈uG fp h:=List.mem_filterMap.mpr ⟨b,hb,by rw [e]; rfl⟩
theorem Jp {fp:List Addr} {h:Heap} {p:Addr×Obj} (hp:p∈uG fp h):p.1∈fp/\h.get? p.1=some p.2:=by
 obtain ⟨b,hb,e⟩:=List.mem_filterMap.mp hp
 cases q:h.get? b with
 | none=>rw [q] at e; cases e
 | some o =>
  rw [q] at e
  have e':(b,o)=p:=Option.some.inj e
  subst e'
  exact ⟨hb,q⟩
theorem Inv.pinned {pins:List (Addr×Obj)} {σ:St} {H:Hp} {s:Shared} {fp:List Addr} (I:Inv X pins σ H s) (hf:∀ b∈fp,vK X pins H b) (ho:∀ b∈fp,∃ o,s.heap.get? b=some o/\∀ v,o.data≠.cell v):Inv X (pins ++ uG fp s.heap) σ H s :=
 I.pK fun p hp=>(List.mem_append.mp hp).elim (fun z=>I.pin p (List.mem_append_right _ z)) fun z=>by
  obtain ⟨hb,e⟩:=Jp z
  obtain ⟨f0,f1,f2,_⟩:=hf p.1 hb
  obtain ⟨o,e',d⟩:=ho p.1 hb
  rw [e] at e'; cases e'
  exact ⟨e,f0,f1,f2,d⟩
theorem Inv.tW {pins pl:List (Addr×Obj)} {σ:St} {H:Hp} {s:Shared} (I:Inv X (pins ++ pl) σ H s):Inv X pins σ H s:=I.pK fun p hp=>I.pin p (List.mem_append_right _ (List.mem_append_left _ hp))
theorem Wj {iter:Expr} {body:List Stmt} {wi:TI} {g:TG} {tb:TS} {pos:Pos} (hp:PassesOwn (model X.prog X.w) X.A X.env X.xe) (hc:X.calm=true) (hi:PI X tg iter wi) (hg:PG X tg g) (hb:vV X body tb)
  (hs:∀ x,foldedSetIterable iter X.env x=pure x:=by intro _; rfl):PS X (.For tg iter body [] pos) (abe wi g tb):=by
 intro pins s σ H D I h
 refine wpAny_For (bL (hi pins s σ H _ I h) fun v s1 h1=>bL h1 fun itv s2 h2=>?_) hs
 obtain ⟨it,fp,tn,J,H2,e,I2,T,st2,f2,W,⟨m0,w0⟩,turn⟩:=h2
 subst e
 have stat:∀ {H':Hp},(∀ b∈fp,H' b=none)->∀ b∈fp,vK X pins H' b:=fun hn b hb=>⟨hn b hb,(f2 b hb).2⟩
 refine codeAny_forLoop_any (fun n s'=>∃ i σ' H',Inv X pins σ' H' s'/\tn i s'.heap/\(∀ b∈fp,H' b=none)/\W i n σ' H') ?_ m0 ⟨0,σ,H2,I2,st2,fun b hb=>(f2 b hb).1,w0⟩
 rintro n s3 ⟨i,σ3,H3,I3,st3,fr3,w3⟩
 rcases turn i n σ3 H3 w3 with ⟨stop,qn⟩ | ⟨go,N,hN,step⟩
 ·refine wpAny_passesOwn hp (bL (T.done X rfl rfl rfl rfl i pins s3 σ3 H3 X.xe I3 (stat fr3) st3 stop) fun r s4 ⟨hr,I4⟩=>?_)
  subst hr
  exact wpAny_execs_nil ⟨σ3,H3,I4,qn⟩
 ·refine wpAny_passesOwn hp (bL (T.item X rfl rfl rfl rfl i pins s3 σ3 H3 X.xe I3 (stat fr3) st3 go) fun r s4 ⟨u,hr,h4⟩=>?_)
  subst hr
  refine wpAny_passesOwn hp (bL h4 fun _ s5 ⟨x,H5,I5,r5,y5,Y5,fr5⟩=>?_)
  have I5':=I5.pinned (stat fr5) (T.obj _ _ Y5)
  refine wpAny_passesOwn hp (bL (hg _ s5 σ3 H5 x u _ I5' r5 (step x H5 y5)) fun _ s6 ⟨σ6,H6,I6,q6⟩=>?_)
  refine wpAny_passesOwn hp (bL (hb _ s6 σ6 H6 _ I6 q6) fun f s7 q7=>?_)
  have again:∀ {σ7:St} {H7:Hp},Inv X (pins ++ uG fp s5.heap) σ7 H7 s7->N σ7 H7->∃ m,m < n/\∃ i σ' H',Inv X pins σ' H' s7/\tn i s7.heap/\(∀ b∈fp,H' b=none)/\W i m σ' H':=fun {σ7 H7} I7 n7=>by
   obtain ⟨m',hm,w7⟩:=hN σ7 H7 n7
   refine ⟨m',hm,i + 1,σ7,H7,I7.tW,T.keep _ _ _ Y5 fun b hb o e=>(I7.pin (b,o) (List.mem_append_right _ (List.mem_append_right _ (j4 hb e)))).1,fun b hb=>?_,w7⟩
   obtain ⟨o,e,d⟩:=T.obj _ _ Y5 b hb
   exact (I7.pin (b,o) (List.mem_append_right _ (List.mem_append_right _ (j4 hb e)))).2.1
  cases f with
  | next=>obtain ⟨σ7,H7,I7,n7⟩:=q7; exact again I7 n7
  | cont=>obtain ⟨σ7,H7,I7,n7⟩:=q7; exact again I7 n7
  | brk=>obtain ⟨σ7,H7,I7,q7⟩:=q7; exact ⟨σ7,H7,I7.tW,q7⟩
  | ret v=>obtain ⟨x7,σ7,H7,I7,r7,q7⟩:=q7; exact ⟨x7,σ7,H7,I7.tW,r7,q7⟩
end
end L2
namespace L2
open PySem PySem.Spec PyProof.Rows
noncomputable abbrev R2:=V->V->Hp->VK->Prop
noncomputable def lG (X:Cx) (f:Value->Value->Sem Value) (r:R2):Prop :=
 ∀ (pins:List (Addr×Obj)) (s:Shared) (σ:St) (H:Hp) (x y:V) (v u:Value) (Q:VK),Inv X pins σ H s->RelV x v->RelV y u->r x y H Q ->
  wpAny (model X.prog X.w) X.A (f v u) (EP X pins σ Q) X.xe s
noncomputable def UnR (X:Cx) (f:Value->Sem Value) (r:V->Hp->VK->Prop):Prop :=
 ∀ (pins:List (Addr×Obj)) (s:Shared) (σ:St) (H:Hp) (x:V) (v:Value) (Q:VK),Inv X pins σ H s->RelV x v->r x H Q ->
  wpAny (model X.prog X.w) X.A (f v) (EP X pins σ Q) X.xe s
noncomputable def bV (X:Cx) (f:Value) (r:List V->Hp->VK->Prop):Prop :=
 ∀ (pins:List (Addr×Obj)) (s:Shared) (σ:St) (H:Hp) (xs:List V) (us:List Value) (Q:VK),Inv X pins σ H s->Vals xs us->r xs H Q ->
  wpAny (model X.prog X.w) X.A (call f us) (EP X pins σ Q) X.xe s
noncomputable def ab5 (X:Cx) (r:V->Hp->(Bool->Hp->Prop)->Prop):Prop :=
 ∀ (pins:List (Addr×Obj)) (s:Shared) (σ:St) (H:Hp) (x:V) (v:Value) (Q:Bool->Hp->Prop),Inv X pins σ H s->RelV x v->r x H Q ->
  wpAny (model X.prog X.w) X.A (truthy v) (TP X pins σ Q) X.xe s
noncomputable def YJ (r:R2) (ta tb:TE):TE:=fun σ H Q=>ta σ H fun x H1=>tb σ H1 fun y H2=>r x y H2 Q
noncomputable def tUn (r:V->Hp->VK->Prop) (ta:TE):TE:=fun σ H Q=>ta σ H fun x H1=>r x H1 Q
noncomputable def rI (C:Int->Int->Prop) (g:Int->Int->V):R2:=fun x y H Q=>∃ i j,x = .int i/\y = .int j/\C i j/\Q (g i j) H
noncomputable def Ut (g:Int->Int->V):R2:=fun x y H Q=>∃ i j,x = .int i/\y = .int j/\Q (g i j) H
noncomputable def rU (g:Int->V):V->Hp->VK->Prop:=fun x H Q=>∃ i,x = .int i/\Q (g i) H
section
variable {X:Cx} {a b c:Expr} {ta tb tc:TE} {pos:Pos}
theorem X5 (ha:PE X a ta) (hb:PE X b tb) {pins:List (Addr×Obj)} {s:Shared} {σ:St} {H:Hp} {R:V->V->Hp->Prop} (I:Inv X pins σ H s)
  (h:ta σ H fun x H1=>tb σ H1 fun y H2=>R x y H2) {Q:Value->Shared->Prop} {f:Value->Value->Sem Value}
  (hf:∀ v u s2 x y H2,Inv X pins σ H2 s2->RelV x v->RelV y u->R x y H2->wpAny (model X.prog X.w) X.A (f v u) Q X.xe s2) :
  wpAny (model X.prog X.w) X.A (eval a X.env) (fun v s₁=>wpAny (model X.prog X.w) X.A (eval b X.env) (fun u s₂=>wpAny (model X.prog X.w) X.A (f v u) Q X.xe s₂) X.xe s₁) X.xe s:=by
 refine bL (ha pins s σ H _ I h) fun v s1 ⟨x,H1,I1,r1,q1⟩=>?_
 refine bL (hb pins s1 σ H1 _ I1 q1) fun u s2 ⟨y,H2,I2,r2,q2⟩=>?_
 exact hf v u s2 x y H2 I2 r1 r2 q2
theorem Ze {op:Operator} {r:R2} (ho:lG X (binaryOp op) r) (ha:PE X a ta) (hb:PE X b tb):PE X (.BinOp a op b pos) (YJ r ta tb):=by
 intro pins s σ H Q I h
 exact wpAny_BinOp (X5 ha hb I h fun v u s2 x y H2 I2 rx ry q=>ho pins s2 σ H2 x y v u Q I2 rx ry q)
theorem Zd {op:UnaryOp} {r:V->Hp->VK->Prop} (ho:UnR X (unaryOp op) r) (ha:PE X a ta):PE X (.UnaryOp op a pos) (tUn r ta):=by
 intro pins s σ H Q I h
 exact UnaryOp_ (bL (ha pins s σ H _ I h) fun v s1 ⟨x,H1,I1,r1,q1⟩=>ho pins s1 σ H1 x v Q I1 r1 q1)
theorem opI {f:Value->Value->Sem Value} {C:Int->Int->Prop} {g:Int->Int->Int}
  (rule:∀ (i j:Int) (t u:Tok) (s:Shared) (Q:Value->Shared->Prop) (E:Value->Shared->Prop),C i j->Q (.int (g i j) s.toks) { s with toks:=s.toks + 1 }->wpAny (model X.prog X.w) X.A (f (.int i t) (.int j u)) Q E s) :
  lG X f (rI C fun i j=>.int (g i j)):=by
 intro pins s σ H x y v u Q I rx ry h
 obtain ⟨i,j,rfl,rfl,hc,q⟩:=h
 obtain ⟨t,rfl⟩:=rx
 obtain ⟨t',rfl⟩:=ry
 exact rule i j t t' s _ _ hc ⟨.int (g i j),H,I.tok _,⟨_,rfl⟩,q⟩
theorem Zo {f:Value->Value->Sem Value} {g:Int->Int->Int}
  (rule:∀ (i j:Int) (t u:Tok) (s:Shared) (Q:Value->Shared->Prop) (E:Value->Shared->Prop),Q (.int (g i j) s.toks) { s with toks:=s.toks + 1 }->wpAny (model X.prog X.w) X.A (f (.int i t) (.int j u)) Q E s) :
  lG X f (Ut fun i j=>.int (g i j)):=by
 intro pins s σ H x y v u Q I rx ry h
 obtain ⟨i,j,rfl,rfl,q⟩:=h
 obtain ⟨t,rfl⟩:=rx
 obtain ⟨t',rfl⟩:=ry
 exact rule i j t t' s _ _ ⟨.int (g i j),H,I.tok _,⟨_,rfl⟩,q⟩
theorem RD {f:Value->Value->Sem Value} {g:Int->Int->Bool}
  (rule:∀ (i j:Int) (t u:Tok) (s:Shared) (Q:Value->Shared->Prop) (E:Value->Shared->Prop),Q (.bool (g i j)) s->wpAny (model X.prog X.w) X.A (f (.int i t) (.int j u)) Q E s) :
  lG X f (Ut fun i j=>.bl (g i j)):=by
 intro pins s σ H x y v u Q I rx ry h
 obtain ⟨i,j,rfl,rfl,q⟩:=h
 obtain ⟨t,rfl⟩:=rx
 obtain ⟨t',rfl⟩:=ry
 exact rule i j t t' s _ _ ⟨.bl (g i j),H,I,rfl,q⟩
noncomputable def acd (i j:Int):Prop:=0<=j/\j<=1000000/\i.natAbs < 2 ^ 64
noncomputable def Yk (i j:Int):Prop:=(-(2 ^ 64) < i/\i < 2 ^ 64)∨(-(2 ^ 64) < j/\j < 2 ^ 64)
theorem Yk.ok {i j:Int} (h:Yk i j):IntMulOk i j:=by
 rcases h with ⟨h1,h2⟩ | ⟨h1,h2⟩
 ·exact .of_left (intBits_le_64 h1 h2)
 ·exact .of_right (intBits_le_64 h1 h2)
theorem WM:lG X (binaryOp .Add) (Ut fun i j=>.int (i + j)):=Zo fun _ _ _ _ _ _ _ q=>add_int q
theorem Wx:lG X (binaryOp .Sub) (Ut fun i j=>.int (i - j)):=Zo fun _ _ _ _ _ _ _ q=>sub_int q
theorem Wz:lG X (binaryOp .Mult) (rI Yk fun i j=>.int (i * j)):=opI fun _ _ _ _ _ _ _ hc q=>mul_int q hc.ok
theorem WD:lG X (binaryOp .Mod) (rI (fun _ j=>0 < j) fun i j=>.int (i % j)):=opI fun i j _ _ _ _ _ hc q=>by
 have h1:(0:Int) < j:=hc
 exact mod_int' (by lia) (by rw [Int.fmod_eq_emod_of_nonneg i (by lia)]; exact q)
theorem Wy:lG X (binaryOp .Pow) (rI acd fun i j=>.int (i ^ j.toNat)):=opI fun _ _ _ _ _ _ _ hc q=>pow_int_small hc.1 hc.2.1 hc.2.2 q
theorem unI {f:Value->Sem Value} {g:Int->Int}
  (rule:∀ (i:Int) (t:Tok) (s:Shared) (Q:Value->Shared->Prop) (E:Value->Shared->Prop),Q (.int (g i) s.toks) { s with toks:=s.toks + 1 }->wpAny (model X.prog X.w) X.A (f (.int i t)) Q E s) :
  UnR X f (rU fun i=>.int (g i)):=by
 intro pins s σ H x v Q I rx h
 obtain ⟨i,rfl,q⟩:=h
 obtain ⟨t,rfl⟩:=rx
 exact rule i t s _ _ ⟨.int (g i),H,I.tok _,⟨_,rfl⟩,q⟩
theorem Vy:UnR X (unaryOp .USub) (rU fun i=>.int (-i)):=unI fun _ _ _ _ _ q=>neg_int q
end
section
variable {X:Cx} {a b c:Expr} {ta tb tc:TE} {pos:Pos}
theorem u5 {pins:List (Addr×Obj)} {σ:St} {H:Hp} {s:Shared} {Q:VK} {k k':Bool} (I:Inv X pins σ H s) (q:Q (.bl k) H) (e:k=k'):EP X pins σ Q (.bool k') s:=by
 subst e
 exact ⟨.bl k,H,I,rfl,q⟩
theorem Zj:lG X (compareOp .Lt) (Ut fun i j=>.bl (decide (i < j))):=RD fun _ _ _ _ _ _ _ q=>lt_int q
theorem Zk:lG X (compareOp .LtE) (Ut fun i j=>.bl (decide (i<=j))):=RD fun _ _ _ _ _ _ _ q=>le_int q
theorem Zm:lG X (compareOp .Gt) (Ut fun i j=>.bl (decide (j < i))):=RD fun _ _ _ _ _ _ _ q=>gt_int q
theorem Zn:lG X (compareOp .GtE) (Ut fun i j=>.bl (decide (j<=i))):=RD fun _ _ _ _ _ _ _ q=>ge_int q
theorem Jm:lG X (compareOp .Lt) (fun x y H Q=>∃ i j,x = .str i/\y = .str j/\Q (.bl (decide (i.cps.toList < j.cps.toList))) H):=by
 intro pins s σ H x y v u Q I rx ry h
 obtain ⟨i,j,rfl,rfl,q⟩:=h
 obtain ⟨t,rfl⟩:=rx
 obtain ⟨t',rfl⟩:=ry
 exact lt_str (u5 I q rfl)
theorem Jo:lG X (compareOp .In) (fun x y H Q=>∃ i j,x = .str i/\y = .str j/\Q (.bl (!(Builtin.Str.occurrences j i 0 j.length 1).isEmpty)) H):=by
 intro pins s σ H x y v u Q I rx ry h
 obtain ⟨i,j,rfl,rfl,q⟩:=h
 obtain ⟨t,rfl⟩:=rx
 obtain ⟨t',rfl⟩:=ry
 exact in_str (u5 I q rfl)
theorem WK:lG X (compareOp .Is) (fun x y H Q=>y = .non/\Q (.bl (decide (x = .non))) H):=by
 intro pins s σ H x y v u Q I rx ry h
 obtain ⟨rfl,q⟩:=h
 cases ry
 refine is_none_gen (u5 I q ?_)
 cases x <;> first
  | (cases rx; rfl)
  | (obtain ⟨t,rfl⟩:=rx; rfl)
theorem Rz:lG X (compareOp .IsNot) (fun x y H Q=>y = .non/\Q (.bl (!decide (x = .non))) H):=by
 intro pins s σ H x y v u Q I rx ry h
 obtain ⟨rfl,q⟩:=h
 cases ry
 refine isnot_none_gen (u5 I q ?_)
 cases x <;> first
  | (cases rx; rfl)
  | (obtain ⟨t,rfl⟩:=rx; rfl)
theorem yX:lG X (compareOp .NotIn) (fun x y H Q=>∃ i j,x = .str i/\y = .str j/\Q (.bl (!(!(Builtin.Str.occurrences j i 0 j.length 1).isEmpty))) H):=by
 intro pins s σ H x y v u Q I rx ry h
 obtain ⟨i,j,rfl,rfl,q⟩:=h
 obtain ⟨t,rfl⟩:=rx
 obtain ⟨t',rfl⟩:=ry
 exact notIn_str (u5 I q rfl)
theorem lG.or {f:Value->Value->Sem Value} {r r':R2} (h:lG X f r) (h':lG X f r'):lG X f (fun x y H Q=>r x y H Q∨r' x y H Q):=by
 intro pins s σ H x y v u Q I rx ry q
 rcases q with q | q
 ·exact h pins s σ H x y v u Q I rx ry q
 ·exact h' pins s σ H x y v u Q I rx ry q
theorem abx (b:Expr) {op:CmpOp} (h:op≠.In:=by decide) (h2:op≠.NotIn:=by decide):behindInMarks op b=false:=by
 have e1:(op == CmpOp.In)=false:=by cases op <;> first | rfl | exact absurd rfl h
 have e2:(op == CmpOp.NotIn)=false:=by cases op <;> first | rfl | exact absurd rfl h2
 cases b <;> simp [behindInMarks,e1,e2]
theorem yU {op:CmpOp} {r:R2} (ho:lG X (compareOp op) r) (ha:PE X a ta) (hb:PE X b tb) (hm:behindInMarks op b=false):PE X (.Compare a [op] [b] pos) (YJ r ta tb):=by
 intro pins s σ H Q I h
 exact wpAny_Compare1 (X5 ha hb I h fun v u s2 x y H2 I2 rx ry q=>ho pins s2 σ H2 x y v u Q I2 rx ry q) hm
noncomputable def GC (t:TE):TT:=fun σ H Q=>t σ H fun x H'=>∃ k,x = .bl k/\Q k H'
theorem yR {op:CmpOp} {r:R2} (ho:lG X (compareOp op) r) (ha:PE X a ta) (hb:PE X b tb) (hm:behindInMarks op b=false):PT X (.Compare a [op] [b] pos) (GC (YJ r ta tb)):=by
 intro pins s σ H Q I h
 refine wpAny_isTrue_Compare1 (bL (ha pins s σ H _ I h) fun v s1 ⟨x,H1,I1,r1,q1⟩=>bL (hb pins s1 σ H1 _ I1 q1) fun u s2 ⟨y,H2,I2,r2,q2⟩ =>
  bL (ho pins s2 σ H2 x y v u _ I2 r1 r2 q2) fun c s3 ⟨z,H3,I3,r3,k,e,q3⟩=>?_) hm
 subst e
 cases r3
 exact wpAny_truthy_bool ⟨H3,I3,q3⟩
noncomputable def yI (r r':R2) (ta tb tc:TE):TE:=fun σ H Q=>ta σ H fun x H1=>tb σ H1 fun y H2=>r x y H2 fun z H3=>∃ k,z = .bl k /\
 (if k=true then tc σ H3 fun w' H4=>r' y w' H4 Q else Q (.bl false) H3)
theorem Mx {op op':CmpOp} {r r':R2} (ho:lG X (compareOp op) r) (ho':lG X (compareOp op') r') (ha:PE X a ta) (hb:PE X b tb) (hc:PE X c tc)
  (hm:lastMarks [op,op'] [b,c]=false:=by with_unfolding_all rfl):PE X (.Compare a [op,op'] [b,c] pos) (yI r r' ta tb tc):=by
 intro pins s σ H Q I h
 refine Compare_chain (bL (ha pins s σ H _ I h) fun v s1 ⟨x,H1,I1,r1,q1⟩=>chain_link (bL (hb pins s1 σ H1 _ I1 q1) fun u s2 ⟨y,H2,I2,r2,q2⟩ =>
  bL (ho pins s2 σ H2 x y v u _ I2 r1 r2 q2) fun d s3 ⟨z,H3,I3,r3,k,e,q3⟩=>?_)) hm
 subst e
 cases r3
 refine wpAny_truthy_bool ?_
 cases k with
 | false=>exact ite_ff ⟨.bl false,H3,I3,rfl,q3⟩
 | true=>exact ite_tt (chain_last (bL (hc pins s3 σ H3 _ I3 q3) fun w' s4 ⟨z',H4,I4,r4,q4⟩=>ho' pins s4 σ H4 y z' u w' Q I4 r2 r4 q4))
theorem Lx {op op':CmpOp} {r r':R2} (ho:lG X (compareOp op) r) (ho':lG X (compareOp op') r') (ha:PE X a ta) (hb:PE X b tb) (hc:PE X c tc)
  (hm:lastMarks [op,op'] [b,c]=false:=by with_unfolding_all rfl):PT X (.Compare a [op,op'] [b,c] pos) (GC (yI r r' ta tb tc)):=by
 intro pins s σ H Q I h
 refine isTrue_chain (bL (ha pins s σ H _ I h) fun v s1 ⟨x,H1,I1,r1,q1⟩=>test_link (bL (hb pins s1 σ H1 _ I1 q1) fun u s2 ⟨y,H2,I2,r2,q2⟩ =>
  bL (ho pins s2 σ H2 x y v u _ I2 r1 r2 q2) fun d s3 ⟨z,H3,I3,r3,k,e,q3⟩=>?_)) hm
 subst e
 cases r3
 refine wpAny_truthy_bool ?_
 cases k with
 | false =>
  obtain ⟨k',e',q'⟩:=q3
  cases e'
  exact ite_ff ⟨H3,I3,q'⟩
 | true =>
  refine ite_tt (test_last (bL (hc pins s3 σ H3 _ I3 q3) fun w' s4 ⟨z',H4,I4,r4,q4⟩=>bL (ho' pins s4 σ H4 y z' u w' _ I4 r2 r4 q4) fun d' s5 ⟨z2,H5,I5,r5,k2,e2,q5⟩=>?_))
  subst e2
  cases r5
  exact wpAny_truthy_bool ⟨H5,I5,q5⟩
noncomputable def X8 (K:PySem.W.Frag) (x:V) (H:Hp) (k:Bool):Prop :=
 match x with
 | .non=>k=false
 | .bl b=>k=b
 | .int i=>k=(i != 0)
 | .str y=>y.length<=sizeLine/\k=((y.length:Int) != 0)
 | .X3 y=>y.size<=sizeLine/\k=((y.size:Int) != 0)
 | .ref p=>(∃ xs,lg K H p xs/\k = !xs.isEmpty)∨(∃ xs,qu K H p xs/\k = !xs.isEmpty)∨∃ kvs,H p=some (.dK kvs)/\k = !kvs.isEmpty
 | _=>False
theorem FT {κ:Type} {kvs:List (κ×V)} {vs:List (κ×Value)} (r:KV kvs vs):(!vs.isEmpty) = !kvs.isEmpty:=by
 cases r <;> rfl
theorem uW {xs:List V} {its:List Value} (r:Vals xs its):(!its.toArray.isEmpty) = !xs.isEmpty:=by
 cases r <;> simp
theorem uU:(sizeLine:Nat) < 2 ^ 63:=by rw [sizeLine_eq]; decide
theorem VP:ab5 X (fun x H Q=>∃ k,X8 X.K x H k/\Q k H):=by
 intro pins s σ H x v Q I rx h
 obtain ⟨k,e,q⟩:=h
 have hl:=uU
 have hs:sizeLine=16777216:=sizeLine_eq
 cases x with
 | non =>
  cases rx
  have e':k=false:=e
  subst e'
  exact truthy_none ⟨H,I,q⟩
 | bl b =>
  cases rx
  have e':k=b:=e
  subst e'
  exact wpAny_truthy_bool ⟨H,I,q⟩
 | int i =>
  obtain ⟨t,rfl⟩:=rx
  have e':k=(i != 0):=e
  subst e'
  exact PySem.P.truthy_int ⟨H,I,q⟩
 | str y =>
  obtain ⟨t,rfl⟩:=rx
  obtain ⟨hy,e'⟩:y.length<=sizeLine/\k=((y.length:Int) != 0):=e
  subst e'
  exact PySem.P.truthy_str (by lia) ⟨H,I.tok _,q⟩
 | X3 y =>
  obtain ⟨t,rfl⟩:=rx
  obtain ⟨hy,e'⟩:y.size<=sizeLine/\k=((y.size:Int) != 0):=e
  subst e'
  exact PySem.W.truthy_bytes (by lia) ⟨H,I.tok _,q⟩
 | ref p =>
  cases rx
  have e':(∃ xs,lg X.K H p xs/\k = !xs.isEmpty)∨(∃ xs,qu X.K H p xs/\k = !xs.isEmpty)∨∃ kvs,H p=some (.dK kvs)/\k = !kvs.isEmpty:=e
  rcases e' with ⟨xs,hx,e'⟩ | ⟨xs,hx,e'⟩ | ⟨kvs,hx,e'⟩
  ·subst e'
   obtain ⟨its,r,pl,hz⟩:=I.list hx
   have hlen:=r.length
   exact wpAny_truthy_list pl.isList (by simp only [List.size_toArray]; lia) ⟨H,I.tok _,by rw [uW r]; exact q⟩
  ·subst e'
   obtain ⟨its,r,pl,hz⟩:=I.tuple hx
   have hlen:=r.length
   exact truthy_tuple pl (by simp only [List.size_toArray]; lia) ⟨H,I.tok _,by rw [uW r]; exact q⟩
  ·subst e'
   obtain ⟨hz,hS,vs,r,m⟩:kvs.length<=sizeLine/\(p == sysModules)=false/\∃ vs,KV kvs vs/\s.heap.DictOf (aX X.prog X.w) p vs:=I.hok p _ hx
   have hlen:kvs.length=vs.length:=Paired.length r
   exact wpAny_truthy_dict hS m (by lia) ⟨H,I.tok _,by rw [FT r]; exact q⟩
 | _=>exact (show False from e).elim
theorem Br (ha:PE X a ta) (he:∀ whole,isTrue a X.env whole=(do let v <- whole; standAt a.pos; holding [v] (truthy v))) :
  PT X a (fun σ H Q=>ta σ H fun x H'=>∃ k,X8 X.K x H' k/\Q k H'):=by
 intro pins s σ H Q I h
 exact isTrue_plain (bL (ha pins s σ H _ I h) fun v s1 ⟨x,H1,I1,r1,q1⟩=>VP pins s1 σ H1 x v Q I1 r1 q1) (he _)
theorem Fg:lG X (binaryOp .Add) (fun x y H Q=>∃ i j,x = .str i/\y = .str j/\i.length + j.length<=sizeLine/\Q (.str (i ++ j)) H):=by
 intro pins s σ H x y v u Q I rx ry h
 obtain ⟨i,j,rfl,rfl,hz,q⟩:=h
 obtain ⟨t,rfl⟩:=rx
 obtain ⟨t',rfl⟩:=ry
 exact add_str (fun t' tk=>⟨.str (i ++ j),H,I.tok _,⟨_,rfl⟩,q⟩) hz
theorem vals1 {x:V} {us:List Value} (r:Vals [x] us):∃ u,us=[u]/\RelV x u:=by
 cases r with
 | cons r1 r2=>cases r2; exact ⟨_,rfl,r1⟩
theorem vals2 {x y:V} {us:List Value} (r:Vals [x,y] us):∃ u w',us=[u,w']/\RelV x u/\RelV y w':=by
 cases r with
 | cons r1 r2 =>
  cases r2 with
  | cons r3 r4=>cases r4; exact ⟨_,_,rfl,r1,r3⟩
theorem O9:bV X (.builtin "abs") (fun xs H Q=>∃ i,xs=[.int i]/\Q (.int (if i < 0 then -i else i)) H):=by
 intro pins s σ H xs us Q I r h
 obtain ⟨i,rfl,q⟩:=h
 obtain ⟨u,rfl,t,rfl⟩:=vals1 r
 exact call_abs_int fun u tk=>⟨.int (if i < 0 then -i else i),H,I.tok _,⟨_,rfl⟩,q⟩
theorem J0 (hc:X.calm=true):bV X (.builtin "max") (fun xs H Q=>∃ i j,xs=[.int i,.int j]/\Q (.int (if j > i then j else i)) H):=by
 intro pins s σ H xs us Q I r h
 obtain ⟨i,j,rfl,q⟩:=h
 obtain ⟨u,w',rfl,⟨t,rfl⟩,⟨t',rfl⟩⟩:=vals2 r
 refine max_two_ints (I.ok.hd hc) fun h' tk k=>⟨_,H,I.kept k,?_,q⟩
 by_cases hj:j > i
 ·rw [if_pos hj,if_pos hj]; exact ⟨_,rfl⟩
 ·rw [if_neg hj,if_neg hj]; exact ⟨_,rfl⟩
theorem JX (hc:X.calm=true):bV X (.builtin "min") (fun xs H Q=>∃ i j,xs=[.int i,.int j]/\Q (.int (if j < i then j else i)) H):=by
 intro pins s σ H xs us Q I r h
 obtain ⟨i,j,rfl,q⟩:=h
 obtain ⟨u,w',rfl,⟨t,rfl⟩,⟨t',rfl⟩⟩:=vals2 r
 refine min_two_ints (I.ok.hd hc) fun h' tk k=>⟨_,H,I.kept k,?_,q⟩
 by_cases hj:j < i
 ·rw [if_pos hj,if_pos hj]; exact ⟨_,rfl⟩
 ·rw [if_neg hj,if_neg hj]; exact ⟨_,rfl⟩
theorem xY:bV X (.type "int") (fun xs H Q=>(∃ i,xs=[.int i]/\Q (.int i) H)∨∃ k,xs=[.bl k]/\Q (.int (if k then 1 else 0)) H):=by
 intro pins s σ H xs us Q I r h
 rcases h with ⟨i,rfl,q⟩ | ⟨k,rfl,q⟩
 ·obtain ⟨u,rfl,t,rfl⟩:=vals1 r
  exact call_int_int ⟨.int i,H,I,⟨_,rfl⟩,q⟩
 ·obtain ⟨u,rfl,r1⟩:=vals1 r
  cases r1
  exact call_int_bool ⟨.int (if k then 1 else 0),H,I.tok _,⟨_,rfl⟩,q⟩
noncomputable def aar (K:PySem.W.Frag) (x:V) (H:Hp) (n:Nat):Prop :=
 match x with
 | .str y=>y.length<=sizeLine/\n=y.length
 | .X3 y=>y.size<=sizeLine/\n=y.size
 | .ref p=>(∃ xs,lg K H p xs/\n=xs.length)∨∃ xs,qu K H p xs/\n=xs.length
 | _=>False
theorem O8:bV X (.builtin "len") (fun xs H Q=>∃ x n,xs=[x]/\aar X.K x H n/\Q (.int n) H):=by
 intro pins s σ H xs us Q I r h
 obtain ⟨x,n,rfl,e,q⟩:=h
 obtain ⟨u,rfl,rx⟩:=vals1 r
 have hl:=uU
 have hs:sizeLine=16777216:=sizeLine_eq
 cases x with
 | str y =>
  obtain ⟨t,rfl⟩:=rx
  obtain ⟨hy,e'⟩:y.length<=sizeLine/\n=y.length:=e
  subst e'
  exact len_str (by lia) ⟨.int _,H,I.tok _,⟨_,rfl⟩,q⟩
 | X3 y =>
  obtain ⟨t,rfl⟩:=rx
  obtain ⟨hy,e'⟩:y.size<=sizeLine/\n=y.size:=e
  subst e'
  exact PySem.W.len_bytes (by lia) ⟨.int _,H,I.tok _,⟨_,rfl⟩,q⟩
 | ref p =>
  cases rx
  have e':(∃ xs,lg X.K H p xs/\n=xs.length)∨∃ xs,qu X.K H p xs/\n=xs.length:=e
  rcases e' with ⟨xs,hx,e'⟩ | ⟨xs,hx,e'⟩
  ·subst e'
   obtain ⟨its,r',pl,hz⟩:=I.list hx
   have hlen:=r'.length
   exact Calls.call_len_list pl.isList (by simp only [List.size_toArray]; lia) ⟨.int xs.length,H,I.tok _,⟨_,by simp only [List.size_toArray]; rw [hlen]⟩,q⟩
  ·subst e'
   obtain ⟨its,r',pl,hz⟩:=I.tuple hx
   have hlen:=r'.length
   exact len_tuple pl (by simp only [List.size_toArray]; lia) ⟨.int xs.length,H,I.tok _,⟨_,by simp only [List.size_toArray]; rw [hlen]⟩,q⟩
 | _=>exact (show False from e).elim
end
end L2
namespace L2
open PySem PySem.Spec PyProof.Rows
structure Yi (h:Heap) (x dx C:Addr) (mA:Str->Option Value):Prop where
 obj:h.get? x=some (PySem.W.instObj C dx)
 ns:h.Ns1 dx mA
 ne:dx≠x
theorem Ju {h:Heap} {dx:Addr} {mA:Str->Option Value} (n:h.Ns1 dx mA):∃ od,h.get? dx=some od/\∀ name,PySem.W.lookIn name od=some (mA name):=by
 obtain ⟨o,es,ep,ho,hd,hk,_,hm⟩:=n
 refine ⟨o,ho,fun name=>?_⟩
 have e:=hm name
 unfold nsFind findBy at e
 rw [<- Array.find?_toList] at e
 unfold PySem.W.lookIn
 rw [hd]
 dsimp only
 split
 ·rename_i y q
  rw [q] at e
  exact congrArg some e
 ·rename_i q
  rw [q] at e
  have a:es.toList.any (·.refKey)=false:=by
   rw [List.any_eq_false]
   intro y hy
   obtain ⟨z,t,hkey⟩:=hk y (Array.mem_toList_iff.mp hy)
   simp [DictEntry.refKey,hkey]
  have a':¬ es.toList.any (·.refKey)=true:=by rw [a]; exact Bool.false_ne_true
  rw [if_neg a']
  exact congrArg some e
theorem Yi.look {h:Heap} {x dx C:Addr} {mA:Str->Option Value} (I:Yi h x dx C mA):∃ od,PySem.W.InstAt h x (PySem.W.instObj C dx) C (some od)/\∀ name,PySem.W.lookIn name od=some (mA name) :=
 let ⟨od,ho,hl⟩:=Ju I.ns
 ⟨od,⟨I.obj,rfl,rfl,ho⟩,hl⟩
section
variable {prog:Program} {w:World} {A:Around} {E:Value->Shared->Prop} {s:Shared} {K:PySem.W.Frag} {x dx C f:Addr} {mA:Str->Option Value} {name:Str} {v:Value}
end
theorem qp.some_of {v:V} {o:Option Value} (r:qp (some v) o):∃ u,o=some u/\RelV v u:=by
 cases o with
 | none=>exact (show False from r).elim
 | some u=>exact ⟨u,rfl,r⟩
section
variable {P:Program} {w:World} {H H':Hp} {h h':Heap} {a C dx:Addr} {fs fs':List (Str×V)}
theorem S6 (hok:ni P w H h) (e:H a=some (.ins C dx fs)):∃ mA,Yi h a dx C mA/\(∀ f,qp (fs.lookup f) (mA f))/\PySem.Within mA (fs.map (·.1))/\fs.length<=1000/\H dx=some (.own a):=by
 obtain ⟨d,z,ne,ob,mA,n,r,q⟩:=(show aJ P w H h a (.ins C dx fs) from hok a _ e)
 exact ⟨mA,⟨ob,n,ne⟩,r,q,z,d⟩
end
structure Cls (K:PySem.W.Frag) (C:Addr):Prop where
 pg:PySem.W.plainGet K C Str.empty=true
 hd:PySem.W.hasDictIn K C=true
 po:PySem.W.plainOver K C=true
 sa:PySem.W.findIn K (.ref C) "__setattr__" = some (some (.builtin "object.__setattr__"))
theorem Cls.get {K:PySem.W.Frag} {C:Addr} (c:Cls K C) (f:Str):PySem.W.plainGet K C f=true:=c.pg
noncomputable def vH (K:PySem.W.Frag) (C:Addr) (f:Str):Prop:=PySem.W.findIn K (.ref C) f=some none
structure Meth (K:PySem.W.Frag) (C:Addr) (m:Str) (f:Addr):Prop where
 at_:PySem.W.findIn K (.ref C) m=some (some (.ref f))
 fn:PySem.W.isFn K (.ref f)=true
 kp:PySem.W.keepIn K (.ref f)=true
section
variable {X:Cx} {pins:List (Addr×Obj)} {σ:St} {H:Hp} {s:Shared} {a C dx:Addr} {fs:List (Str×V)} {f:Str} {v:V} {A:Around} {E:Value->Shared->Prop}
end
section
variable {X:Cx} {o e value:Expr} {f:Str} {pos pos' tpos:Pos} {ta tv:TE}
end
section
variable {X:Cx} {pins:List (Addr×Obj)} {σ:St} {H:Hp} {s:Shared} {A:Around} {E:Value->Shared->Prop} {Q:Value->Shared->Prop} {c:Value} {b:Bool}
inductive ql (K:PySem.W.Frag) (H:Hp):V->Value->Prop where
 | non:ql K H .non (.type "NoneType")
 | bl (x:Bool):ql K H (.bl x) (.type "bool")
 | int (i:Int):ql K H (.int i) (.type "int")
 | str (x:Str):ql K H (.str x) (.type "str")
 | flt (x:UInt64):ql K H (.flt x) (.type "float")
 | lst {a:Addr} {xs:List V} (e:H a=some (.lst xs)):ql K H (.ref a) (.type "list")
 | bK {a:Addr} {o:Obj} {xs:List V} (e:H a=some (.bK o (.lst xs))):ql K H (.ref a) (.type "list")
 | tup {a:Addr} {xs:List V} (e:H a=some (.tup xs)):ql K H (.ref a) (.type "tuple")
 | dK {a:Addr} {kvs:List (Key×V)} (e:H a=some (.dK kvs)):ql K H (.ref a) (.type "dict")
 | dT {a:Addr} {kvs:List (List Key×V)} (e:Rd H a (.dT kvs)):ql K H (.ref a) (.type "dict")
 | ins {a C dx:Addr} {fs:List (Str×V)} (e:H a=some (.ins C dx fs)) (cl:Cls K C) (ha:PySem.W.findIn K (.ref C) "__class__" = some (some (.builtin "object.__class__")))
   (hn:PySem.W.specialIn K (.builtin "object.__class__") "__get__" = some (some (.builtin "getset_descriptor.__get__"))) (htk:PySem.W.takesIn K (.builtin "object.__class__")=some true)
   (hm:PySem.W.mroIn K C (.type "object")=some true):ql K H (.ref a) (.ref C)
theorem Jx {x:V} {u t:Value} (I:Inv X pins σ H s) (rx:RelV x u) (ty:ql X.K H x t) (e:PySem.W.kitOne X.K t c=some b) (h:∀ tk,Q (.bool b) { s with toks:=tk }) :
  wpAny (model X.prog X.w) A (call (.builtin "isinstance") [u,c]) Q E s:=by
 cases ty with
 | non=>cases (show u=Value.none from rx); exact PySem.W.kia_one PySem.W.kitx_none I.tu True.intro e (fun z=>nomatch z) h
 | bl y=>cases (show u=Value.bool y from rx); exact PySem.W.kia_one PySem.W.kitx_bool I.tu True.intro e (fun z=>nomatch z) h
 | int i=>obtain ⟨t,q⟩:=(show ∃ t,u=Value.int i t from rx); cases q; exact PySem.W.kia_one PySem.W.kitx_int I.tu True.intro e (fun z=>nomatch z) h
 | str y=>obtain ⟨t,q⟩:=(show ∃ t,u=Value.str y t from rx); cases q; exact PySem.W.kia_one PySem.W.kitx_str I.tu True.intro e (fun z=>nomatch z) h
 | flt y=>obtain ⟨t,q⟩:=(show ∃ t,u=Value.float y t from rx); cases q; exact PySem.W.kia_one PySem.W.kitx_float I.tu True.intro e (fun z=>nomatch z) h
 | @lst a xs ea =>
  cases (show u=Value.ref a from rx)
  obtain ⟨_,_,n,_,h1⟩:=(show aJ X.prog X.w H s.heap a (.lst xs) from I.hok a _ ea)
  exact PySem.W.kia_one PySem.W.kitx_list I.tu ⟨_,h1,rfl⟩ e (fun z=>nomatch z) h
 | @bK a ob xs ea =>
  cases (show u=Value.ref a from rx)
  obtain ⟨_,_,_,n,_,h1⟩:=(show aJ X.prog X.w H s.heap a (.bK ob (.lst xs)) from I.hok a _ ea)
  exact PySem.W.kia_one PySem.W.kitx_list I.tu ⟨_,h1,rfl⟩ e (fun z=>nomatch z) h
 | @tup a xs ea =>
  cases (show u=Value.ref a from rx)
  obtain ⟨_,_,_,p⟩:=(show aJ X.prog X.w H s.heap a (.tup xs) from I.hok a _ ea)
  obtain ⟨o,h1,h2,_⟩:=p
  exact PySem.W.kia_one PySem.W.kitx_tuple I.tu ⟨o,h1,h2⟩ e (fun z=>nomatch z) h
 | @dK a kvs ea =>
  cases (show u=Value.ref a from rx)
  obtain ⟨_,_,vs,_,p⟩:=(show aJ X.prog X.w H s.heap a (.dK kvs) from I.hok a _ ea)
  obtain ⟨o,es,ep,h1,h2,_⟩:=p
  exact PySem.W.kia_one PySem.W.kitx_dict I.tu ⟨o,h1,h2.1⟩ e (fun z=>nomatch z) h
 | @dT a kvs ea =>
  cases (show u=Value.ref a from rx)
  obtain ⟨_,_,xs,_,o,es,ep,h1,h2,_⟩:=(show aJ X.prog X.w H s.heap a (.dT kvs) from ea.ok I.hok)
  exact PySem.W.kia_one PySem.W.kitx_dict I.tu ⟨o,h1,h2.1⟩ e (fun z=>nomatch z) h
 | @ins a C dx fs ea cl ha hn htk hm =>
  cases (show u=Value.ref a from rx)
  obtain ⟨mA,O,_⟩:=S6 I.hok ea
  obtain ⟨od,J,_⟩:=O.look
  exact PySem.W.kia_one (PySem.W.kitx_own (cl.get _) cl.hd ha hn htk hm) I.tu J e (fun z=>nomatch z) h
end
end L2
namespace L2
open PySem PySem.Spec PyProof.Rows
structure bU (k:Nat) (A:Around):Prop where
 hd:16<=k->A.handled=none
 dp:A.depth + 3 * k + 5 < recursionLimit
 un:A.units + 16 * k + 200 < cLine
 gd:A.guards=some []
theorem bU.mono {j k:Nat} {A:Around} (r:bU k A) (h:j<=k):bU j A:=⟨fun z=>r.hd (Nat.le_trans z h),by have:=r.dp; lia,by have:=r.un; lia,r.gd⟩
theorem bU.deeper {k:Nat} {A:Around} (r:bU (k + 1) A) (env:Env):bU k (A.deeper env) :=
 ⟨fun z=>r.hd (Nat.le_succ_of_le z),by have:=r.dp; show A.depth + 1 + 3 * k + 5 < _; lia,by have:=r.un; show A.units + 3 + 16 * k + 200 < _; lia,r.gd⟩
theorem bU.in1 {k:Nat} {A:Around} (r:bU (k + 1) A):bU k A.in1 :=
 ⟨fun z=>r.hd (Nat.le_succ_of_le z),by have:=r.dp; show A.depth + 3 * k + 5 < _; lia,by have:=r.un; show A.units + 1 + 16 * k + 200 < _; lia,r.gd⟩
theorem bU.depth {k:Nat} {A:Around} (r:bU k A):A.depth < recursionLimit:=by have:=r.dp; lia
theorem bU.units {k:Nat} {A:Around} (r:bU k A):A.units + 64 < cLine:=by have:=r.un; lia
noncomputable def YL:TA:=fun _ H Q=>Q [] H
noncomputable def Ul (ta:TE) (tr:TA):TA:=fun σ H Q=>ta σ H fun x H1=>tr σ H1 fun xs H2=>Q (x :: xs) H2
section
variable {X:Cx} {e:Expr} {es:List Expr} {te:TE} {t:TA} {pos:Pos}
theorem uH:PA X [] YL:=fun _ _ _ _ H Q I h=>Calls.spliced_nil ⟨[],H,I,.nil,h⟩
theorem gU (ha:PE X e te) (hr:PA X es t) (hs:starEach (e :: es) X.env=(false,eval e X.env) :: starEach es X.env:=by rfl):PA X (e :: es) (Ul te t):=by
 intro pos pins s σ H Q I h
 rw [hs]
 show wpAny _ _ (spliced ((false,eval e X.env) :: backTo pos (starEach es X.env))) _ _ s
 refine Calls.spliced_cons (bL (ha pins s σ H _ I h) fun u s1 ⟨x,H1,I1,r1,q1⟩=>?_)
 exact bL (hr pos pins s1 σ H1 _ I1 q1) fun us s2 ⟨xs,H2,I2,r2,q2⟩=>⟨x :: xs,H2,I2,.cons r1 r2,q2⟩
noncomputable def aa5 (t:TA):TE:=fun σ H Q=>t σ H fun xs H1=>xs.length<=sizeLine/\∀ p,H1 p=none->Q (.ref p) (upd H1 p (.tup xs))
noncomputable def abb (t:TA):TE:=fun σ H Q=>t σ H fun xs H1=>xs.length<=sizeLine/\∀ p,H1 p=none->Q (.ref p) (upd H1 p (.lst xs))
theorem Ml {x1} (h:PA X es t):PE X (.Tuple es x1 pos) (aa5 t):=by
 intro pins s σ H Q I hq
 refine wpAny_Tuple_spliced (bL (h pos pins s σ H _ I hq) fun us s1 ⟨xs,H1,I1,r,z,q⟩=>⟨by rw [<- r.length]; exact z,?_⟩)
 have hf:H1 s1.heap.objs.size=none:=I1.hok.fresh (Nat.le_refl _)
 refine ⟨.ref s1.heap.objs.size,upd H1 s1.heap.objs.size (.tup xs),I1.laid (t':=s1.toks) (fun b u e=>Heap.get?_push_of_some _ e) (Nat.le_refl _) ?_,rfl,q _ hf⟩
 exact ⟨z,us,r,⟨_,Heap.get?_push_size _ rfl,rfl,_,rfl,rfl⟩⟩
theorem Wr (h:PA X es t):PE X (.List es pos) (abb t):=by
 intro pins s σ H Q I hq
 refine wpAny_List_spliced (bL (h pos pins s σ H _ I hq) fun us s1 ⟨xs,H1,I1,r,z,q⟩=>⟨by rw [<- r.length]; exact z,?_⟩)
 have hf:H1 s1.heap.objs.size=none:=I1.hok.fresh (Nat.le_refl _)
 refine ⟨.ref s1.heap.objs.size,upd H1 s1.heap.objs.size (.lst xs),I1.laid (t':=s1.toks) (fun b u e=>Heap.get?_push_of_some _ e) (Nat.le_refl _) ?_,rfl,q _ hf⟩
 exact ⟨z,us,0,r,Heap.get?_push_size _ rfl⟩
end
noncomputable abbrev Sp:=List V->Hp->VK->XK->Prop
noncomputable abbrev HY:=List Env->Hp->Shared->XK->Value->Shared->Prop
structure Gv (P:Program) (w:World) (K:PySem.W.Frag) (mg:Str->Option Value) (base:Heap) (A:Around) (outer:List Env) (s:Shared) (H:Hp):Prop where
 frames:A.frames=some outer
 mod:Mod K mg base
 bs:∀ b o,base.get? b=some o->s.heap.get? b=some o/\H b=none
 J5:base.objs.size<=s.heap.objs.size
 oF:s.heap.FunFrames base outer
 Qf:∀ b∈frs outer,H b=none
 hok:ni P w H s.heap
 bare:AllBare s.gens
 hh:Gs A H
noncomputable def CE (outer:List Env) (P:Program) (w:World) (H:Hp) (s:Shared) (Q:VK) (u:Value) (s':Shared):Prop :=
 ∃ v H',s'.os=s.os/\AllBare s'.gens/\Un (frs outer) [] H H' s.heap s'.heap/\ni P w H' s'.heap/\RelV v u/\Q v H'
noncomputable def CR (CX:HY) (outer:List Env) (P:Program) (w:World) (H:Hp) (s:Shared) (Q:VK) (E:XK) (r:Result) (s':Shared):Prop :=
 match r with
 | .ok (.ret u)=>CE outer P w H s Q u s'
 | .ok _=>False
 | .error e=>CX outer H s E e s'
structure cQ (P:Program) (w:World) (K:PySem.W.Frag) (mg:Str->Option Value) (base:Heap) (CX:HY) (k:Nat) (f:Addr) (fd:FuncData) (ps:List Str) (sp:Sp):Prop where
 len:∀ vs H Q E,sp vs H Q E->vs.length=ps.length
 run:∀ (A:Around) (outer:List Env) (s:Shared) (H:Hp) (args:Args) (us:List Value) (vs:List V) (Q:VK) (E:XK),bU k A->Gv P w K mg base A outer s H->BindsTo s fd args (ps.zip us)->Vals vs us->sp vs H Q E ->
  codeAny (model P w) A (.call (.ref f) args) (CR CX outer P w H s Q E) s
theorem cQ.mono {P:Program} {w:World} {K:PySem.W.Frag} {mg:Str->Option Value} {base:Heap} {CX:HY} {j k:Nat} {f:Addr} {fd:FuncData} {ps:List Str} {sp:Sp} (F:cQ P w K mg base CX j f fd ps sp) (h:j<=k) :
  cQ P w K mg base CX k f fd ps sp:=⟨F.len,fun A outer s H args us vs Q E hr=>F.run A outer s H args us vs Q E (hr.mono h)⟩
theorem cQ.imp {P:Program} {w:World} {K:PySem.W.Frag} {mg:Str->Option Value} {base:Heap} {CX:HY} {k:Nat} {f:Addr} {fd:FuncData} {ps:List Str} {sp DG:Sp} (F:cQ P w K mg base CX k f fd ps sp)
  (h:∀ vs H Q E,DG vs H Q E->sp vs H Q E):cQ P w K mg base CX k f fd ps DG :=
 ⟨fun vs H Q E q=>F.len vs H Q E (h _ _ _ _ q),fun A outer s H args us vs Q E hr he hb hv hs=>F.run A outer s H args us vs Q E hr he hb hv (h _ _ _ _ hs)⟩
theorem Gv.in1 {P:Program} {w:World} {K:PySem.W.Frag} {mg:Str->Option Value} {base:Heap} {A:Around} {outer:List Env} {s:Shared} {H:Hp} (e:Gv P w K mg base A outer s H) :
  Gv P w K mg base A.in1 outer s H:=⟨e.frames,e.mod,e.bs,e.J5,e.oF,e.Qf,e.hok,e.bare,e.hh⟩
section
variable {X:Cx} {pins:List (Addr×Obj)} {σ:St} {H:Hp} {s s':Shared}
theorem Inv.env0 (I:Inv X pins σ H s):Gv X.prog X.w X.K X.mg X.base X.A X.stack s H :=
 ⟨I.ok.frames,I.ok.mod,I.bs,Nat.le_trans I.ok.J5 I.sz,I.stack,I.yN,I.hok,I.bare,I.hh⟩
theorem Inv.after {Q:VK} {u:Value} (I:Inv X pins σ H s) (h:CE X.stack X.prog X.w H s Q u s'):EP X pins σ Q u s':=by
 obtain ⟨v,H',os,bare,un,hok,r,q⟩:=h
 obtain ⟨hh,g,d,t,os'⟩:=s'
 obtain rfl:os'=s.os:=os
 exact ⟨v,H',I.call (h':=hh) (g':=g) (d':=d) (t':=t) (ch:=[]) un hok bare (fun b z=>absurd z (by simp)),r,q⟩
end
noncomputable def Um (sp:Sp) (Qg:List V) (E:XK) (t:TA):TE:=fun σ H Q=>t σ H fun vs H1=>sp (vs ++ Qg) H1 Q E
noncomputable def Binds (K:PySem.W.Frag) (fd:FuncData) (ps:List Str) (ds:List Value):Prop :=
 ∀ (s:Shared) (us:List Value),K.In s.heap->(us ++ ds).length=ps.length->BindsTo s fd ⟨us,[]⟩ (ps.zip (us ++ ds))
theorem Binds.all {K:PySem.W.Frag} {fd:FuncData} {ps:List Str} (h:∀ us:List Value,us.length=ps.length->bindArgs fd ⟨us,[]⟩=pure (ps.zip us)):Binds K fd ps []:=fun s us _ hl=>by
 rw [List.append_nil] at hl ⊢
 exact .of_eq (h us hl)
noncomputable def Passes (CX:HY) (X:Cx) (E:XK):Prop:=∀ (pins:List (Addr×Obj)) (σ:St) (H:Hp) (s:Shared) (e:Value) (s':Shared),Inv X pins σ H s->CX X.stack H s E e s'->X.xe e s'
section
variable {X:Cx} {CX:HY} {k:Nat} {f C:Addr} {fd:FuncData} {ps:List Str} {sp:Sp} {Qg:List V} {ds:List Value} {E:XK} {x m:Str} {p pos apos:Pos} {e o:Expr} {es:List Expr} {ta:TE} {t:TA}
theorem Ln {pins:List (Addr×Obj)} {σ:St} {H:Hp} {s:Shared} {Q:VK} {us:List Value} {vs:List V} (F:cQ X.prog X.w X.K X.mg X.base CX k f fd ps sp) (hr:bU k X.A) (hb:Binds X.K fd ps ds) (hd:Vals Qg ds) (hx:Passes CX X E)
  (I:Inv X pins σ H s) (r:Vals vs us) (h:sp (vs ++ Qg) H Q E):wpAny (model X.prog X.w) X.A (call (.ref f) us) (EP X pins σ Q) X.xe s:=by
 have r2:Vals (vs ++ Qg) (us ++ ds):=r.append hd
 have hl:(us ++ ds).length=ps.length:=by rw [<- r2.length]; exact F.len _ _ _ _ h
 refine wpAny_call (codeAny_mono (F.run X.A X.stack s H ⟨us,[]⟩ (us ++ ds) (vs ++ Qg) Q E hr I.env0 (hb s us I.tu hl) r2 h) fun r s' hq=>?_)
 cases r with
 | error e=>exact hx pins σ H s e s' I hq
 | ok fl =>
  cases fl with
  | ret u=>exact I.after hq
  | next=>exact False.elim hq
  | brk=>exact False.elim hq
  | cont=>exact False.elim hq
theorem Rx (F:cQ X.prog X.w X.K X.mg X.base CX k f fd ps sp) (hr:bU k X.A) (hg:Gl X x) (hm:X.mg x=some (.ref f)) (hk:PySem.W.keepIn X.K (.ref f)=true) (hb:Binds X.K fd ps ds) (hd:Vals Qg ds) (hx:Passes CX X E)
  (ha:PA X (e :: es) t) (hdb:(x == ("__debug__" : Str))=false:=by decide) (he:starEach (e :: es) X.env=(false,eval e X.env) :: starEach es X.env:=by rfl) (hpl:(backTo pos (starEach es X.env)).any (·.1)=false:=by rfl) :
  PE X (.Call (.Name x p) (e :: es) [] pos) (Um sp Qg E t):=by
 intro pins s σ H Q I h
 refine wpAny_Call_Name_kw (j5 I hg hm ?_ hdb)
 refine PySem.W.callWith_K (h₀:=X.base) I.ok.mod.ZF hk (bL (ha pos pins s σ H _ I h) fun us s1 ⟨vs,H1,I1,r,q⟩=>⟨I1.tu,?_⟩) he hpl
 exact Ln F hr hb hd hx I1 r q
theorem MJ (F:cQ X.prog X.w X.K X.mg X.base CX k f fd ps sp) (hr:bU k X.A) (hg:Gl X x) (hm:X.mg x=some (.ref f)) (hk:PySem.W.keepIn X.K (.ref f)=true) (hb:Binds X.K fd ps ds) (hd:Vals Qg ds) (hx:Passes CX X E)
  (hdb:(x == ("__debug__" : Str))=false:=by decide):PE X (.Call (.Name x p) [] [] pos) (Um sp Qg E YL):=by
 intro pins s σ H Q I h
 refine wpAny_Call_Name_kw (j5 I hg hm ?_ hdb)
 exact PySem.W.callWith_K0 I.tu hk (Ln (us:=[]) F hr hb hd hx I .nil h)
structure Mk (K:PySem.W.Frag) (C f:Addr):Prop where
 makes:PySem.W.makesIn K C=true
 init:PySem.W.findIn K (.ref C) "__init__" = some (some (.ref f))
 fn:PySem.W.isFn K (.ref f)=true
 kp:PySem.W.keepIn K (.ref C)=true
end
section
variable {X:Cx} {CX:HY} {k:Nat} {f C:Addr} {fd:FuncData} {ps ks:List Str} {sp:Sp} {E:XK} {x m:Str} {p pos apos kpos:Pos} {e o:Expr} {es:List Expr} {kws:List Keyword} {te ta:TE} {t tk:TA} {nm:Option Str}
variable {g:List Value->List Value->List Value} {gV:List V->List V->List V}
end
structure aK (N P:List Str) (sc:Scope):Prop where
 kind:sc.kind = .function
 co:sc.isCoroutine=false
 gen:sc.isGenerator=false
 nd:N.Nodup
 pre:N.take P.length=P
 par:∀ x∈P,sc.names.lookup x=some .local∨sc.names.lookup x=some .cell
 W0:∀ y∈sc.names,y.2≠.free
theorem xZ {kindOf:Str->Option NameKind} {x:Str}:∀ {binds:List (Str×Value)} {m:Str->Option Value},(∀ v,(x,v) ∉ binds)->bindL kindOf binds m x=m x
 | [],_,_=>rfl
 | (n,v) :: r,m,h=>by
  unfold bindL
  rw [xZ fun w hw=>h w (List.mem_cons_of_mem _ hw)]
  split
  ·have:x≠n:=by rintro rfl; exact h v List.mem_cons_self
   simp [this]
  ·rfl
theorem yd {kindOf:Str->Option NameKind} {x:Str}:∀ {binds:List (Str×Value)} {m:Str->Option Value},(∀ v,(x,v) ∉ binds)->bindC kindOf binds m x=m x
 | [],_,_=>rfl
 | (n,v) :: r,m,h=>by
  unfold bindC
  rw [yd fun w hw=>h w (List.mem_cons_of_mem _ hw)]
  split
  ·rfl
  ·have:x≠n:=by rintro rfl; exact h v List.mem_cons_self
   simp [this]
theorem yc {kindOf:Str->Option NameKind} {x:Str} {v:Value}:∀ {P:List Str} {vs:List Value} {i:Nat} {m:Str->Option Value},P.Nodup->P[i]? = some x->vs[i]? = some v->kindOf x=some .local ->
  bindL kindOf (P.zip vs) m x=some v
 | [],_,_,_,_,h,_,_=>by simp at h
 | _ :: _,[],_,_,_,_,h,_=>by simp at h
 | p :: P,w :: vs,0,m,nd,h1,h2,hk=>by
  simp at h1 h2; subst h1; subst h2
  show bindL kindOf ((p,w) :: P.zip vs) m p=_
  unfold bindL
  rw [xZ fun v hv=>(List.nodup_cons.mp nd).1 (List.of_mem_zip hv).1,if_pos hk]
  simp
 | p :: P,w :: vs,i + 1,m,nd,h1,h2,hk=>by
  show bindL kindOf ((p,w) :: P.zip vs) m x=_
  unfold bindL
  exact yc (i:=i) (List.nodup_cons.mp nd).2 (by simpa using h1) (by simpa using h2) hk
theorem yg {kindOf:Str->Option NameKind} {x:Str} {v:Value}:∀ {P:List Str} {vs:List Value} {i:Nat} {m:Str->Option Value},P.Nodup->P[i]? = some x->vs[i]? = some v->kindOf x≠some .local ->
  bindC kindOf (P.zip vs) m x=some v
 | [],_,_,_,_,h,_,_=>by simp at h
 | _ :: _,[],_,_,_,_,h,_=>by simp at h
 | p :: P,w :: vs,0,m,nd,h1,h2,hk=>by
  simp at h1 h2; subst h1; subst h2
  show bindC kindOf ((p,w) :: P.zip vs) m p=_
  unfold bindC
  rw [yd fun v hv=>(List.nodup_cons.mp nd).1 (List.of_mem_zip hv).1,if_neg hk]
  simp
 | p :: P,w :: vs,i + 1,m,nd,h1,h2,hk=>by
  show bindC kindOf ((p,w) :: P.zip vs) m x=_
  unfold bindC
  exact yg (i:=i) (List.nodup_cons.mp nd).2 (by simpa using h1) (by simpa using h2) hk
noncomputable def start (N:List Str) (vs:List V):St:=vs.map some ++ List.replicate (N.length - vs.length) none
noncomputable def wM (CX:HY) (P:Program) (w:World) (K:PySem.W.Frag) (mg:Str->Option Value) (base:Heap) (N:List Str) (qual:Str) (scope:Scope) (f:Addr) (cd:Value) (A:Around) (outer:List Env) (s:Shared) (H:Hp) (E:XK):Cx where
 prog:=P
 w:=w
 K:=K
 mg:=mg
 base:=base
 A:=A.deeper (envOfC qual scope s.heap.objs.size f cd)
 N:=N
 s₀:=s
 H₀:=H
 env:=envOfC qual scope s.heap.objs.size f cd
 outer:=outer
 stack:=envOfC qual scope s.heap.objs.size f cd :: outer
 ex:=[]
 calm:=A.handled.isNone
 fn:=fun _=>true
 pn:=[]
 xe:=fun e s'=>wpAny (model P w) (A.deeper (envOfC qual scope s.heap.objs.size f cd)) (leaving (envOfC qual scope s.heap.objs.size f cd) e) (fun _ s''=>CX outer H s E e s'') (fun e' s''=>CX outer H s E e' s'') s'
theorem Dm {sc:Scope} {n:Nat} {x:Str} (h:sc.names.lookup x=some .cell):∃ c,(cellsFrom n sc.names []).lookup x=some c:=by
 have q:=PySem.W.cellsFrom_some sc.names n [] (.inl h)
 exact Option.isSome_iff_exists.mp q
theorem JB {CX:HY} {P:Program} {w:World} {K:PySem.W.Frag} {mg:Str->Option Value} {base:Heap} {N ps:List Str} {qual:Str} {scope:Scope} {f:Addr} {cd:Value} {A:Around} {outer:List Env} {s s1:Shared} {H:Hp} {E:XK} {us:List Value} {vs:List V}
  (S:aK N ps scope) (e0:Gv P w K mg base A outer s H) (hl:vs.length=ps.length) (r:Vals vs us)
  (x:InCallC s s.heap.objs.size (bindL (envOfC qual scope s.heap.objs.size f cd).kindOf (ps.zip us) fun _=>none) (cellsFrom (s.heap.objs.size + 1) scope.names []) (bindC (envOfC qual scope s.heap.objs.size f cd).kindOf (ps.zip us) fun _=>none) s1) :
  Inv (wM CX P w K mg base N qual scope f cd A outer s H E) [] (start N vs) H s1:=by
 have hpl:ps.length<=N.length:=by have:=congrArg List.length S.pre; rw [List.length_take] at this; lia
 obtain ⟨h1,tk,rfl,hk⟩:=x.done
 have Zu:∀ b:Addr,b ∉ (wM CX P w K mg base N qual scope f cd A outer s H E).ex:=fun b z=>absurd (show b∈([]:List Addr) from z) (by simp)
 refine ⟨⟨e0.mod,S.kind,rfl,rfl,Nat.le_refl _,fun y z c h1 h2=>?_,fun y hy=>?_,fun y c _ h=>?_,fun z=>Option.isNone_iff_eq_none.mp z,Around.frames_deeper e0.frames,.inr ⟨rfl,rfl⟩,fun b z=>absurd z (Zu b),e0.bs,e0.J5,fun b _ _=>Zu b,fun b z=>absurd z (Zu b),e0.oF,e0.Qf⟩,
  rfl,e0.bare,Un.kept hk,⟨_,x.toInCall.ns,fun i y v h1 h2 h3=>?_⟩,fun y c h=>⟨_,x.cell y c h⟩,e0.hok.fresh (Nat.le_refl _),fun y c h=>?_,fun p hp=>absurd (show p∈([]:List (Addr×Obj)) from hp) (by simp),e0.hok.kept hk,?_,e0.hh⟩
 ·exact name_of_addr x.apart (PySem.mem_of_lookup h1) (PySem.mem_of_lookup h2)
 ·have hy:scope.names.lookup y=some .cell∨scope.names.lookup y=some .free:=hy
  rcases hy with hy | hy
  ·exact Dm hy
  ·exact absurd rfl (S.W0 _ (PySem.mem_of_lookup hy))
 ·exact Nat.le_of_lt (x.above y c (PySem.mem_of_lookup h))
 ·have hi:i < vs.length:=by
   unfold start at h2
   by_cases hi:i < vs.length
   ·exact hi
   ·rw [List.getElem?_append_right (by simpa using hi)] at h2
    rw [List.getElem?_replicate] at h2
    split at h2 <;> cases h2
  have ha:vs[i]? = some v:=by
   unfold start at h2
   rw [List.getElem?_append_left (by simpa using hi),List.getElem?_map] at h2
   cases e:vs[i]? with
   | none=>rw [e] at h2; cases h2
   | some a=>rw [e] at h2; cases h2; rfl
  obtain ⟨u,hu,rv⟩:=r.get ha
  have hp:ps[i]? = some y:=by
   rw [<- S.pre,List.getElem?_take_of_lt (by lia)]; exact h1
  have ndP:ps.Nodup:=by rw [<- S.pre]; exact S.nd.sublist (List.take_sublist _ _)
  refine ⟨u,rv,?_⟩
  rcases S.par y (List.mem_of_getElem? hp) with k | k
  ·exact .inl ⟨k,yc ndP hp hu k⟩
  ·obtain ⟨c,e⟩:=Dm (n:=s.heap.objs.size + 1) k
   refine .inr ⟨.inl k,c,e,?_⟩
   have q:=x.cell y c e
   rw [yg ndP hp hu (by show scope.names.lookup y≠_; rw [k]; decide)] at q
   exact q
 ·exact e0.hok.fresh (Nat.le_of_lt (x.above y c (PySem.mem_of_lookup h)))
 ·unfold start
  show _=N.length
  rw [List.length_append,List.length_map,List.length_replicate]
  lia
theorem Va {CX:HY} {P:Program} {w:World} {K:PySem.W.Frag} {mg:Str->Option Value} {base:Heap} {k:Nat} {f:Addr} {name qual:Str} {params:Arguments} {body:List Stmt} {scope:Scope} {dV kV doc pm cdv ct oc:Value} {an od:Option Addr}
  {osl:Array (Option Value)} {N ps:List Str} {sp:Sp} (lk:K.lookup f=some ⟨oc,od,.func (PySem.W.fnOf name qual params body scope dV kV doc pm an cdv ct),osl⟩) (hcd:PySem.W.codeIn K cdv qual=true) (S:aK N ps scope)
  (len:∀ vs H Q E,sp vs H Q E->vs.length=ps.length)
  (hbody:∀ (A:Around) (outer:List Env) (s:Shared) (H:Hp) (vs:List V) (Q:VK) (E:XK),bU k (A.deeper (envOfC qual scope s.heap.objs.size f cdv))->sp vs H Q E ->
   ∃ t,vV (wM CX P w K mg base N qual scope f cdv A outer s H E) body t/\t { nx:=fun _ H'=>Q .non H',rt:=Q } (start N vs) H) :
  cQ P w K mg base CX (k + 1) f (PySem.W.fnOf name qual params body scope dV kV doc pm an cdv ct) ps sp:=by
 refine ⟨len,fun A outer s H args us vs Q E hr e0 hb r hsp=>?_⟩
 have hl:=len _ _ _ _ hsp
 have KX:K.In s.heap:=e0.mod.ZF.keeps fun b o e=>(e0.bs b o e).1
 have lim:s.heap.NoLimit:=e0.mod.nolimit.keeps fun b o e=>(e0.bs b o e).1
 have hkind:∀ y∈ps.zip us,scope.names.lookup y.1=some .local∨(scope.names.lookup y.1=some .cell/\((cellsFrom (s.heap.objs.size + 1) scope.names []).lookup y.1).isSome=true):=fun ⟨n,v⟩ hy=>by
  rcases S.par n (List.of_mem_zip hy).1 with q | q
  ·exact .inl q
  ·exact .inr ⟨q,PySem.W.cellsFrom_some _ _ _ (.inl q)⟩
 refine codeAny_call_function hr.depth (KX _ _ lk) rfl S.co S.gen rfl (PySem.W.codeRec_of KX hcd) (hb _ _ _ _ ?_)
 refine wpAny_newFunctionEnv_cells S.kind hkind fun env he s1 x=>?_
 subst he
 refine ⟨lim.keeps x.toInCall.keep,codeAny_func ?_⟩
 obtain ⟨t,ht,hq⟩:=hbody A outer s H vs Q E (hr.deeper _) hsp
 have I:Inv (wM CX P w K mg base N qual scope f cdv A outer s H E) [] (start N vs) H s1:=JB S e0 hl r x
 refine wpAny_mono (ht [] s1 (start N vs) H _ I hq) (fun fl s' hs=>?_) fun e s' hs=>hs
 have fin:∀ {σ':St} {H':Hp} {v:V} {u:Value},Inv (wM CX P w K mg base N qual scope f cdv A outer s H E) [] σ' H' s'->RelV v u->Q v H'->CE outer P w H s Q u s' :=
  fun {σ' H' v u} J rv q=>⟨v,H',J.os,J.bare,J.base,J.hok,rv,q⟩
 cases fl with
 | ret u =>
  obtain ⟨v,σ',H',J,rv,q⟩:=hs
  exact fin J rv q
 | next =>
  obtain ⟨σ',H',J,q⟩:=hs
  exact fin (v:=V.non) (u:=Value.none) J rfl q
 | brk =>
  obtain ⟨_,_,_,q⟩:=hs
  exact False.elim q
 | cont =>
  obtain ⟨_,_,_,q⟩:=hs
  exact False.elim q
end L2
namespace L2
open PySem PySem.Spec PyProof.Rows
section
variable {X:Cx} {x:Str} {p pos:Pos} {e:Expr} {es:List Expr} {t:TA} {id T:String} {r:List V->Hp->VK->Prop}
noncomputable def tCB (r:List V->Hp->VK->Prop) (t:TA):TE:=fun σ H Q=>t σ H fun vs H1=>r vs H1 Q
theorem dW (hc:bV X (.builtin id) r) (hg:Gl X x) (hm:X.mg x=none) (hv:bootBuiltins x=some (.builtin id)) (ha:PA X (e :: es) t) (hn:x≠"__name__":=by decide) (hdb:(x == ("__debug__" : Str))=false:=by decide)
  (he:starEach (e :: es) X.env=(false,eval e X.env) :: starEach es X.env:=by rfl) (hpl:(backTo pos (starEach es X.env)).any (·.1)=false:=by rfl):PE X (.Call (.Name x p) (e :: es) [] pos) (tCB r t):=by
 intro pins s σ H Q I h
 refine wpAny_Call_Name_kw (oA I hg hm hv ?_ hn hdb)
 exact PyProof.Rows.callWith_builtin1 (bL (ha pos pins s σ H _ I h) fun us s1 ⟨vs,H1,I1,r1,q1⟩=>hc pins s1 σ H1 vs us Q I1 r1 q1) he hpl
theorem qM (hc:bV X (.type T) r) (hg:Gl X x) (hm:X.mg x=none) (hv:bootBuiltins x=some (.type T)) (ha:PA X (e :: es) t) (hn:x≠"__name__":=by decide) (hdb:(x == ("__debug__" : Str))=false:=by decide)
  (he:starEach (e :: es) X.env=(false,eval e X.env) :: starEach es X.env:=by rfl) (hpl:(backTo pos (starEach es X.env)).any (·.1)=false:=by rfl):PE X (.Call (.Name x p) (e :: es) [] pos) (tCB r t):=by
 intro pins s σ H Q I h
 refine wpAny_Call_Name_kw (oA I hg hm hv ?_ hn hdb)
 exact PyProof.Rows.callWith_type1 (bL (ha pos pins s σ H _ I h) fun us s1 ⟨vs,H1,I1,r1,q1⟩=>hc pins s1 σ H1 vs us Q I1 r1 q1) he hpl
end
end L2
namespace HT
open PySem PyProof.Rows
section
open PySem.SeqAt
open PySem.AutoSeq1 (wpAny_loadPart')
open PySem.MeetsSeq PySem.MeetsSeq2 PySem.MeetsSeq3
end
section
variable {prog:Program} {w:World} {A:Around} {E:Value->Shared->Prop} {s:Shared}
theorem Tw {t b:Addr} {vs ws:List Value} {Q:Value->Shared->Prop} (ht:IsTup s.heap t vs.toArray) (hb:IsTup s.heap b ws.toArray) (hv:vs≠[])
  (h1:ws=[]->Q (.ref t) s) (h2:ws≠[]->Q (.ref s.heap.objs.size) { s with heap:=s.heap.push { cls:=.type "tuple",data:=.seq (vs ++ ws).toArray } })
  (hsz:vs.length + ws.length<=sizeLine):wpAny (model prog w) A (binaryOp .Add (.ref t) (.ref b)) Q E s:=by
 obtain ⟨⟨cls,dd,data,sl⟩,ho,hc,n,hd⟩:=id ht
 obtain ⟨⟨cls2,dd2,data2,sl2⟩,ho2,hc2,n2,hd2⟩:=id hb
 simp only at hc hd hc2 hd2
 subst hc hd hc2 hd2
 have e:vs.toArray ++ ws.toArray=(vs ++ ws).toArray:=by simp
 by_cases hw:ws=[]
 ·exact concat_meets ⟨_,ho,rfl⟩ ⟨_,ho2,rfl⟩ noFill_tuple_add seq_tuple_add PySem.F.slot_tuple_add PySem.F.entry_tuple_add (PySem.F.args_tuple_add_2 _ _)
   (tuple_addW1 t b vs.toArray ws.toArray n n2 dd dd2 sl sl2 (by simpa using hv) (by simp [hw])) ⟨ho,ho2,h1 hw⟩
 ·refine concat_meets ⟨_,ho,rfl⟩ ⟨_,ho2,rfl⟩ noFill_tuple_add seq_tuple_add PySem.F.slot_tuple_add PySem.F.entry_tuple_add (PySem.F.args_tuple_add_2 _ _)
   (tuple_addW2 t b vs.toArray ws.toArray n n2 dd dd2 sl sl2 (by simpa using hv) (by simpa using hw) (by rw [List.size_toArray,List.size_toArray]; exact hsz)) ⟨ho,ho2,?_⟩
  rw [e]
  exact h2 hw
noncomputable def wz (n d:Nat):Option Int->Nat
 | none=>d
 | some v=>if v < 0 then (v + (n:Int)).toNat else min v.toNat n
end
end HT
namespace L2
open PySem PySem.Spec PyProof.Rows
noncomputable abbrev TO:=St->Hp->(Option Int->Hp->Prop)->Prop
noncomputable def PO (X:Cx) (e:Option Expr) (t:TO):Prop :=
 ∀ (pins:List (Addr×Obj)) (s:Shared) (σ:St) (H:Hp) (Q:Option Int->Hp->Prop),Inv X pins σ H s->t σ H Q ->
  wpAny (model X.prog X.w) X.A (evalPart e X.env) (fun u s'=>∃ o H',Inv X pins σ H' s'/\IsPart u o/\Q o H') X.xe s
noncomputable def QG:TO:=fun _ H Q=>Q none H
noncomputable def YG (t:TE):TO:=fun σ H Q=>t σ H fun x H1=>∃ i,x = .int i/\Q (some i) H1
section
variable {X:Cx} {e:Expr} {te:TE} {lo hi:Option Expr} {tl th:TO} {pos p2:Pos}
theorem Ra:PO X none QG:=by
 intro pins s σ H Q I h
 rw [evalPart_none]
 exact wpAny_pure ⟨none,H,I,.none,h⟩
theorem Q9 (h:PE X e te):PO X (some e) (YG te):=by
 intro pins s σ H Q I hw
 rw [evalPart_some]
 refine bL (h pins s σ H _ I hw) fun u s1 ⟨x,H1,I1,r1,q1⟩=>?_
 obtain ⟨i,rfl,q⟩:=q1
 obtain ⟨t,rfl⟩:=r1
 exact ⟨some i,H1,I1,.int i t,q⟩
noncomputable def Yd (X:Cx) (r:V->Option Int->Option Int->Hp->VK->Prop):Prop :=
 ∀ (pins:List (Addr×Obj)) (s:Shared) (σ:St) (H:Hp) (x:V) (v vl vu:Value) (lo hi:Option Int) (sl:Addr) (Q:VK),Inv X pins σ H s->RelV x v->s.heap.IsSliceOf sl vl vu .none->IsPart vl lo->IsPart vu hi->r x lo hi H Q ->
  ∃ T id,typeLookup (.type T) "__getitem__" = pure (some (.builtin id))/\s.TypeIs v T/\wpAny (model X.prog X.w) X.A (getItem v (.ref sl)) (EP X pins σ Q) X.xe s
theorem Yd.or {r r':V->Option Int->Option Int->Hp->VK->Prop} (h:Yd X r) (h':Yd X r'):Yd X (fun x lo hi H Q=>r x lo hi H Q∨r' x lo hi H Q):=by
 intro pins s σ H x v vl vu lo hi sl Q I rx hs pl pu q
 rcases q with q | q
 ·exact h pins s σ H x v vl vu lo hi sl Q I rx hs pl pu q
 ·exact h' pins s σ H x v vl vu lo hi sl Q I rx hs pl pu q
noncomputable def tSl (r:V->Option Int->Option Int->Hp->VK->Prop) (te:TE) (tl th:TO):TE:=fun σ H Q=>te σ H fun x H1=>tl σ H1 fun l H2=>th σ H2 fun u H3=>r x l u H3 Q
theorem Mp {r:V->Option Int->Option Int->Hp->VK->Prop} (hr:Yd X r) (he:PE X e te) (hl:PO X lo tl) (hu:PO X hi th):PE X (.Subscript e (.Slice lo hi none p2) pos) (tSl r te tl th):=by
 intro pins s σ H Q I h
 refine Subscript_ (bL (he pins s σ H _ I h) fun v s1 ⟨x,H1,I1,r1,q1⟩=>?_)
 refine wpAny_Slice (bL (hl pins s1 σ H1 _ I1 q1) fun vl s2 ⟨l,H2,I2,pl,q2⟩=>bL (hu pins s2 σ H2 _ I2 q2) fun vu s3 ⟨u,H3,I3,pu,q3⟩=>?_)
 rw [evalPart_none]
 refine wpAny_pure ?_
 have I4:Inv X pins σ H3 { s3 with heap:=s3.heap.push { cls:=.type "slice",data:=.fields #[vl,vu,.none] } }:=I3.kept (t':=s3.toks) fun b ob q=>Heap.get?_push_of_some _ q
 obtain ⟨T,id,hT,ht,hg⟩:=hr pins { s3 with heap:=s3.heap.push { cls:=.type "slice",data:=.fields #[vl,vu,.none] } } σ H3 x v vl vu l u s3.heap.objs.size Q I4 r1 (Heap.IsSliceOf.new ..) pl pu q3
 show wpAny (model X.prog X.w) X.A (subscriptTail e (.Slice lo hi none p2) v (.ref s3.heap.objs.size)) (EP X pins σ Q) X.xe { s3 with heap:=s3.heap.push { cls:=.type "slice",data:=.fields #[vl,vu,.none] } }
 exact tail_any (ops:=[.ref s3.heap.objs.size,v]) ht hT hg (by with_unfolding_all rfl)
noncomputable def Tt (xs:List V) (lo hi:Option Int):List V:=(xs.drop (HT.wz xs.length 0 lo)).take (HT.wz xs.length xs.length hi - HT.wz xs.length 0 lo)
theorem Dj (xs:List V) (lo hi:Option Int):(Tt xs lo hi).length<=xs.length:=by
 unfold Tt
 rw [List.length_take,List.length_drop]
 lia
noncomputable def Zb (K:PySem.W.Frag):R2:=fun x y H Q=>∃ a b xs ys,x = .ref a/\y = .ref b/\qu K H a xs/\qu K H b ys/\xs≠[]/\xs.length + ys.length<=sizeLine /\
 (ys=[]->Q (.ref a) H)/\(ys≠[]->∀ p,H p=none->Q (.ref p) (upd H p (.tup (xs ++ ys))))
theorem Vals.zf {xs:List V} {us:List Value} (r:Vals xs us):us=[]<->xs=[]:=by
 cases r with
 | nil=>simp
 | cons _ _=>simp
theorem RB:lG X (binaryOp .Add) (Zb X.K):=by
 intro pins s σ H x y v u Q I rx ry h
 obtain ⟨a,b,xs,ys,rfl,rfl,ha,hb,hx,hz,q1,q2⟩:=h
 cases rx
 cases ry
 obtain ⟨its,r1,p1,_⟩:=I.tuple ha
 obtain ⟨its2,r2,p2,_⟩:=I.tuple hb
 refine HT.Tw p1 p2 (fun z=>hx (r1.zf.mp z)) (fun z=>⟨.ref a,H,I,rfl,q1 (r2.zf.mp z)⟩) (fun z=>?_) (by rw [<- r1.length,<- r2.length]; exact hz)
 refine ⟨.ref s.heap.objs.size,_,I.laid (t':=s.toks) (o:=.tup (xs ++ ys)) (fun b ob q=>Heap.get?_push_of_some _ q) (Nat.le_refl _) ?_,rfl,q2 (fun w=>z (r2.zf.mpr w)) _ (I.hok.fresh (Nat.le_refl _))⟩
 exact ⟨by rw [List.length_append]; exact hz,_,r1.append r2,mV.new _ _⟩
end
end L2
namespace L2
open PySem PySem.Spec PyProof.Rows
noncomputable def Xl (n:Nat) (i:Int):Option Nat:=if 0<=i then (if i < n then some i.toNat else none) else if -(n:Int)<=i then some (i + n).toNat else none
noncomputable def Yt {α:Type} (xs:List α) (i:Int):Option α:=(Xl xs.length i).bind fun j=>xs[j]?
theorem Hl {n:Nat} {i:Int} {j:Nat} (h:Xl n i=some j):seqIndex? i n=some j/\j < n/\-(n:Int)<=i/\i < n:=by
 unfold Xl at h
 by_cases h0:0<=i
 ·rw [if_pos h0] at h
  by_cases h1:i < n
  ·rw [if_pos h1] at h
   have e:i.toNat=j:=Option.some.inj h
   exact ⟨by rw [seqIndex_of h0 h1,e],by lia,by lia,h1⟩
  ·rw [if_neg h1] at h; cases h
 ·rw [if_neg h0] at h
  by_cases h1 : -(n:Int)<=i
  ·rw [if_pos h1] at h
   have e:(i + n).toNat=j:=Option.some.inj h
   exact ⟨by rw [seqIndex_neg (by lia) h1,e],by lia,h1,by lia⟩
  ·rw [if_neg h1] at h; cases h
theorem HN {α:Type} {xs:List α} {i:Int} {v:α} (h:Yt xs i=some v):∃ j,seqIndex? i xs.length=some j/\xs[j]? = some v/\j < xs.length/\-(xs.length:Int)<=i/\i < xs.length:=by
 unfold Yt at h
 cases e:Xl xs.length i with
 | none=>rw [e] at h; cases h
 | some j =>
  rw [e] at h
  obtain ⟨h1,h2,h3,h4⟩:=Hl e
  exact ⟨j,h1,h,h2,h3,h4⟩
noncomputable def Ae (b:Expr):Prop:=∀ o i,subscripted b false o i=operate [o,i] (getItem o i)
noncomputable def Vi (X:Cx) (r:R2):Prop :=
 ∀ (value slice:Expr) (pins:List (Addr×Obj)) (s:Shared) (σ:St) (H:Hp) (x y:V) (v u:Value) (Q:VK),Inv X pins σ H s->RelV x v->RelV y u->r x y H Q ->
  subscripted slice false v u=operate [v,u] (getItem v u)->wpAny (model X.prog X.w) X.A (subscriptTail value slice v u) (EP X pins σ Q) X.xe s
noncomputable def Qj (X:Cx) (id:String) (r:V->List V->Hp->VK->Prop):Prop :=
 ∀ (pins:List (Addr×Obj)) (s:Shared) (σ:St) (H:Hp) (x:V) (xs:List V) (v:Value) (us:List Value) (Q:VK),Inv X pins σ H s->RelV x v->Vals xs us->r x xs H Q ->
  wpAny (model X.prog X.w) X.A (call (.builtin id) (v :: us)) (EP X pins σ Q) X.xe s
section
variable {X:Cx} {a b:Expr} {ta tb:TE} {pos:Pos}
theorem Vi.or {r r':R2} (h:Vi X r) (h':Vi X r'):Vi X (fun x y H Q=>r x y H Q∨r' x y H Q):=by
 intro value slice pins s σ H x y v u Q I rx ry q hs
 rcases q with q | q
 ·exact h value slice pins s σ H x y v u Q I rx ry q hs
 ·exact h' value slice pins s σ H x y v u Q I rx ry q hs
theorem Qj.or {id:String} {r r':V->List V->Hp->VK->Prop} (h:Qj X id r) (h':Qj X id r'):Qj X id (fun x xs H Q=>r x xs H Q∨r' x xs H Q):=by
 intro pins s σ H x xs v us Q I rx rs q
 rcases q with q | q
 ·exact h pins s σ H x xs v us Q I rx rs q
 ·exact h' pins s σ H x xs v us Q I rx rs q
theorem Zf {r:R2} (hr:Vi X r) (ha:PE X a ta) (hb:PE X b tb) (hs:Ae b):PE X (.Subscript a b pos) (YJ r ta tb):=by
 intro pins s σ H Q I h
 exact Subscript_ (X5 ha hb I h fun v u s2 x y H2 I2 rx ry q=>hr a b pins s2 σ H2 x y v u Q I2 rx ry q (hs _ _))
noncomputable def abo (K:PySem.W.Frag):R2:=fun x y H Q=>∃ p xs i v,x = .ref p/\y = .int i/\lg K H p xs/\Yt xs i=some v/\Q v H
noncomputable def abn (K:PySem.W.Frag):R2:=fun x y H Q=>∃ p xs i v,x = .ref p/\y = .int i/\qu K H p xs/\Yt xs i=some v/\Q v H
theorem SJ:Vi X (abo X.K):=by
 intro value slice pins s σ H x y v u Q I rx ry h hs
 obtain ⟨p,xs,i,z,rfl,rfl,hq,he,q⟩:=h
 cases rx
 obtain ⟨t,rfl⟩:=ry
 obtain ⟨its,r,pl,hz⟩:=I.list hq
 obtain ⟨j,h1,h2,h3,h4,h5⟩:=HN he
 obtain ⟨w,ew,Er⟩:=r.get h2
 have hl:=r.length
 have hn:=uU
 have fin:EP X pins σ Q w s:=⟨z,H,I,Er,q⟩
 by_cases h0:0<=i
 ·have hj:i.toNat=j:=by
   rw [seqIndex_of h0 h5] at h1
   exact Option.some.inj h1
  exact item_listR pl.isList h0 (by lia) (by rw [hj]; simpa using ew) fin hs
 ·have hj:(i + (its.toArray.size:Int)).toNat=j:=by
   rw [seqIndex_neg (by lia) h4] at h1
   rw [List.size_toArray,<- hl]
   exact Option.some.inj h1
  exact subscriptTail_builtinR (x:=w) pl.isList.typeIs slot_list_getitem.lookup
   (wpAny_getItem_list_neg (Q:=fun r s'=>r=w/\EP X pins σ Q r s') pl.isList (by lia) (by rw [List.size_toArray] <;> lia) (by lia) (by rw [hj]; simpa using ew) ⟨rfl,fin⟩) hs
theorem Xk:Vi X (abn X.K):=by
 intro value slice pins s σ H x y v u Q I rx ry h hs
 obtain ⟨p,xs,i,z,rfl,rfl,hq,he,q⟩:=h
 cases rx
 obtain ⟨t,rfl⟩:=ry
 obtain ⟨its,r,pl,hz⟩:=I.tuple hq
 obtain ⟨j,h1,h2,h3,h4,h5⟩:=HN he
 obtain ⟨w,ew,Er⟩:=r.get h2
 have hl:=r.length
 have hn:=uU
 have fin:EP X pins σ Q w s:=⟨z,H,I,Er,q⟩
 exact subscriptTail_builtinR (x:=w) pl.typeIs slot_tuple_getitem.lookup
  (getItem_tuple (j:=j) (Q:=fun r s'=>r=w/\EP X pins σ Q r s') pl (by lia) (by lia) (by rw [List.size_toArray,<- hl]; exact h1) (by simpa using ew) ⟨rfl,fin⟩) hs
theorem Fp (its:List Value) (n j:Nat) (u:Value):Obj.mapSeq (·.setIfInBounds j u) { cls:=.type "list",data:=.seq its.toArray n }={ cls:=.type "list",data:=.seq (its.set j u).toArray n }:=by
 simp [Obj.mapSeq]
theorem Inv.lst {pins:List (Addr×Obj)} {σ:St} {H:Hp} {s:Shared} {p:Addr} {xs:List V} (I:Inv X pins σ H s) (h:H p=some (.lst xs)) :
  ∃ (its:List Value) (n:Nat),Vals xs its/\s.heap.get? p=some { cls:=.type "list",data:=.seq its.toArray n }/\xs.length<=sizeLine:=by
 obtain ⟨z,its,n,r,e⟩:=I.hok p _ h
 exact ⟨its,n,r,e,z⟩
theorem Inv.W7 {pins:List (Addr×Obj)} {σ:St} {H:Hp} {s:Shared} {p:Addr} {xs ys:List V} {its its':List Value} {n n':Nat} {f:Obj->Obj} (I:Inv X pins σ H s) (h:H p=some (.lst xs))
  (ho:s.heap.get? p=some { cls:=.type "list",data:=.seq its.toArray n }) (hf:f { cls:=.type "list",data:=.seq its.toArray n }={ cls:=.type "list",data:=.seq its'.toArray n' }) (r:Vals ys its') (hz:ys.length<=sizeLine) (t:Nat) :
  Inv X pins σ (upd H p (.lst ys)) { s with heap:=s.heap.update p f,toks:=t }:=by
 have e:(s.heap.update p f).get? p=some { cls:=.type "list",data:=.seq its'.toArray n' }:=by
  rw [Heap.get?_update_self f ho (by rw [hf] <;> rfl),hf]
 refine I.write (x:=p) (e:=p) (by rw [h]; trivial) (.inl rfl) (fun b u hb q=>(Heap.get?_update_other _ _ (Ne.symm hb)).trans q) ⟨_,e⟩ ?_
 exact ⟨hz,its',n',r,e⟩
noncomputable def Za:V->V->V->Hp->(Hp->Prop)->Prop:=fun o i v H Q=>∃ p xs k j,o = .ref p/\i = .int k/\H p=some (.lst xs)/\Xl xs.length k=some j/\Q (upd H p (.lst (xs.set j v)))
theorem set_list:Yg X Za:=by
 intro pins s σ H o i v ov iv u Q I ro ri rv h
 obtain ⟨p,xs,k,j,rfl,rfl,hp,hj,q⟩:=h
 cases ro
 obtain ⟨t,rfl⟩:=ri
 obtain ⟨its,n,r,ho,hz⟩:=I.lst hp
 obtain ⟨h1,h2,h3,h4⟩:=Hl hj
 have hl:=r.length
 have hn:=uU
 have I':Inv X pins σ (upd H p (.lst (xs.set j v))) { s with heap:=s.heap.update p (Obj.mapSeq (·.setIfInBounds j u)) } :=
  I.W7 hp ho (Fp its n j u) (r.set rv j) (by rw [List.length_set]; exact hz) s.toks
 by_cases h0:0<=k
 ·have hk:k.toNat=j:=by
   rw [seqIndex_of h0 h4] at h1
   exact Option.some.inj h1
  exact PySem.W.ki_setAt ho h0 (by lia) (by rw [List.size_toArray,<- hl]; exact h4) (by rw [hk]; exact ⟨_,I',q⟩)
 ·have hk:(k + (its.toArray.size:Int)).toNat=j:=by
   rw [seqIndex_neg (by lia) h3] at h1
   rw [List.size_toArray,<- hl]
   exact Option.some.inj h1
  exact PySem.W.ki_setBack ho (by lia) (by rw [List.size_toArray,<- hl]; exact h3) (by lia) (by rw [hk]; exact ⟨_,I',q⟩)
theorem yO (lo hi:Option Int) (n:Nat):(sliceBounds lo hi none n).1=((HT.wz n 0 lo:Nat):Int)/\(sliceBounds lo hi none n).2.1=((HT.wz n n hi:Nat):Int)/\(sliceBounds lo hi none n).2.2=1:=by
 refine ⟨?_,?_,rfl⟩
 ·cases lo with
  | none=>simp [sliceBounds,HT.wz]
  | some i =>
   simp only [sliceBounds,HT.wz,Option.getD_none,show (1:Int) > 0 by decide,if_true]
   by_cases h:i < 0
   ·simp only [h,if_true] <;> lia
   ·simp only [h,if_false] <;> lia
 ·cases hi with
  | none=>simp [sliceBounds,HT.wz]
  | some i =>
   simp only [sliceBounds,HT.wz,Option.getD_none,show (1:Int) > 0 by decide,if_true]
   by_cases h:i < 0
   ·simp only [h,if_true] <;> lia
   ·simp only [h,if_false] <;> lia
theorem wg (its:List Value) (lo hi:Option Int):slicePick its.toArray lo hi none=((its.drop (HT.wz its.length 0 lo)).take (HT.wz its.length its.length hi - HT.wz its.length 0 lo)).toArray:=by
 obtain ⟨h1,h2,h3⟩:=yO lo hi its.toArray.size
 unfold slicePick
 rw [h1,h2,h3]
 simp only [sliceRange_one,pick_run,List.size_toArray] <;> rfl
noncomputable def abm (K:PySem.W.Frag):V->Option Int->Option Int->Hp->VK->Prop:=fun x lo hi H Q=>∃ a xs,x = .ref a/\lg K H a xs/\∀ p,H p=none->Q (.ref p) (upd H p (.lst (Tt xs lo hi)))
theorem QK:Yd X (abm X.K):=by
 intro pins s σ H x v vl vu lo hi sl Q I rx hs pl pu h
 obtain ⟨a,xs,rfl,hx,q⟩:=h
 cases rx
 obtain ⟨its,r,ht,hz⟩:=I.list hx
 have hlen:=r.length
 refine ⟨"list",_,slot_list_getitem.lookup,ht.isList.typeIs,?_⟩
 refine wpAny_getItem_list_slice ht.isList hs pl pu .none (by simp) ?_ (by rw [List.size_toArray] <;> lia)
 rw [wg,<- hlen]
 refine ⟨.ref s.heap.objs.size,_,I.laid (t':=s.toks) (o:=.lst (Tt xs lo hi)) (fun b ob q=>Heap.get?_push_of_some _ q) (Nat.le_refl _) ?_,rfl,q _ (I.hok.fresh (Nat.le_refl _))⟩
 exact ⟨Nat.le_trans (Dj xs lo hi) hz,_,0,(r.drop (HT.wz xs.length 0 lo)).take (HT.wz xs.length xs.length hi - HT.wz xs.length 0 lo),Heap.get?_push_size _ rfl⟩
theorem bV.or {f:Value} {r r':List V->Hp->VK->Prop} (h:bV X f r) (h':bV X f r'):bV X f (fun xs H Q=>r xs H Q∨r' xs H Q):=by
 intro pins s σ H xs us Q I rs q
 rcases q with q | q
 ·exact h pins s σ H xs us Q I rs q
 ·exact h' pins s σ H xs us Q I rs q
theorem zY:bV X (.type "list") (fun xs H Q=>∃ p ys,xs=[.ref p]/\(lg X.K H p ys∨qu X.K H p ys)/\∀ l,H l=none->Q (.ref l) (upd H l (.lst ys))):=by
 intro pins s σ H xs us Q I r h
 obtain ⟨p,ys,rfl,hq,q⟩:=h
 obtain ⟨u,rfl,rx⟩:=vals1 r
 cases rx
 have fin:∀ (its:List Value),Vals ys its->ys.length<=sizeLine->∀ (h':Heap) (c':Nat),(∀ b o',s.heap.get? b=some o'->h'.get? b=some o') ->
   h'.get? s.heap.objs.size=some { cls:=.type "list",dict:=none,data:=.seq its.toArray c',slots:=#[] }->EP X pins σ Q (.ref s.heap.objs.size) { s with heap:=h' }:=fun its r' hz h' c' kp e =>
  ⟨.ref s.heap.objs.size,_,I.laid (t':=s.toks) kp (Nat.le_refl _) (show aJ X.prog X.w _ h' _ (.lst ys) from ⟨hz,its,c',r',e⟩),rfl,q _ (I.hok.fresh (Nat.le_refl _))⟩
 rcases hq with hq | hq
 ·obtain ⟨its,r',pl,hz⟩:=I.list hq
  have hlen:=r'.length
  obtain ⟨o,ho,hc,n,hd⟩:=pl.isList
  exact call_list_seq p (.inl rfl) ho hc hd (fun h' c' kp e=>fin its r' hz h' c' kp e) (by simp only [List.size_toArray] <;> lia)
 ·obtain ⟨its,r',pl,hz⟩:=I.tuple hq
  have hlen:=r'.length
  obtain ⟨o,ho,hc,n,hd⟩:=pl
  exact call_list_seq p (.inr rfl) ho hc hd (fun h' c' kp e=>fin its r' hz h' c' kp e) (by simp only [List.size_toArray] <;> lia)
noncomputable def tyV (K:PySem.W.Frag) (T:String) (x:V) (H:Hp):Prop:=match x with
 | .str _=>T = "str"
 | .int _=>T = "int"
 | .ref p=>(T = "list"/\∃ xs,lg K H p xs)∨(T = "tuple"/\((∃ o,K.lookup p=some o/\o.cls = .type "tuple"/\o.dict=none)∨∃ xs,H p=some (.tup xs))) ∨
   (T = "dict"/\((∃ kvs,Rd H p (.dK kvs))∨∃ kvs,Rd H p (.dT kvs)))∨(T = "set"/\∃ S n,H p=some (.set S n))
 | _=>False
theorem La {pins:List (Addr×Obj)} {σ:St} {H:Hp} {s:Shared} {T:String} {x:V} {v:Value} (I:Inv X pins σ H s) (r:RelV x v) (ty:tyV X.K T x H) :
  s.TypeIs v T/\∀ a,v = .ref a->∃ ob,s.heap.get? a=some ob/\ob.dict=none:=by
 cases x with
 | str z =>
  obtain ⟨t,rfl⟩:=r
  cases (show T = "str" from ty)
  exact ⟨typeIs_str s z t,fun _ e=>nomatch e⟩
 | int i =>
  obtain ⟨t,rfl⟩:=r
  cases (show T = "int" from ty)
  exact ⟨typeIs_int s i t,fun _ e=>nomatch e⟩
 | ref p =>
  cases r
  rcases ty with ⟨rfl,xs,hq⟩ | ⟨rfl,⟨o,hk,hc,hd⟩ | ⟨xs,hk⟩⟩ | ⟨rfl,hk⟩ | ⟨rfl,S,n,hk⟩
  ·obtain ⟨its,_,pl,_⟩:=I.list hq
   refine ⟨pl.isList.typeIs,fun a e=>?_⟩
   cases e
   obtain ⟨o,n,e,c,hd,_⟩:=pl
   exact ⟨o,e,hd⟩
  ·refine ⟨⟨o,I.tu p o hk,hc⟩,fun a e=>?_⟩
   cases e
   exact ⟨o,I.tu _ o hk,hd⟩
  ·obtain ⟨_,_,_,o,e,c,_,_,hd⟩:=I.hok p _ hk
   refine ⟨⟨o,e,c⟩,fun a e2=>?_⟩
   cases e2
   exact ⟨o,e,hd⟩
  ·have z:∃ o,s.heap.get? p=some o/\o.ExactDict:=by
    rcases hk with ⟨kvs,hk⟩ | ⟨kvs,hk⟩
    ·obtain ⟨_,_,_,_,o,_,_,e,ex,_⟩:=hk.ok I.hok
     exact ⟨o,e,ex⟩
    ·obtain ⟨_,_,_,_,o,_,_,e,ex,_⟩:=hk.ok I.hok
     exact ⟨o,e,ex⟩
   obtain ⟨o,e,ex⟩:=z
   refine ⟨⟨o,e,ex.1⟩,fun a e2=>?_⟩
   cases e2
   exact ⟨o,e,ex.2.1⟩
  ·obtain ⟨o,_,_,_,e,ex,_⟩:=I.hok p _ hk
   refine ⟨⟨o,e,ex.1⟩,fun a e2=>?_⟩
   cases e2
   exact ⟨o,e,ex.2.1⟩
 | _=>exact False.elim ty
noncomputable def YW (K:PySem.W.Frag) (T:String) (r:V->List V->Hp->VK->Prop) (to:TE):TE:=fun σ H Q=>to σ H fun x H1=>tyV K T x H1/\r x [] H1 Q
noncomputable def tBM (K:PySem.W.Frag) (T:String) (r:V->List V->Hp->VK->Prop) (to:TE) (t:TA):TE:=fun σ H Q=>to σ H fun x H1=>tyV K T x H1/\t σ H1 fun xs H2=>r x xs H2 Q
variable {o e:Expr} {es:List Expr} {to:TE} {t:TA} {name:Str} {apos cpos:Pos} {T id:String} {r:V->List V->Hp->VK->Prop}
theorem MK (pa:PlainAttrs T) (slot:Slot T name id) (hty:typeOf (.builtin id)=pure (.type "method_descriptor")) (hm:Qj X id r) (ho:PE X o to)
  (hbase:attributeBase o name X.env (eval o X.env)=eval o X.env:=by rfl) (hline:(apos.endLine == cpos.line)=true:=by rfl):PE X (.Call (.Attribute o name apos) [] [] cpos) (YW X.K T r to):=by
 intro pins s σ H Q I h
 refine wpAny_Call_method0_late hbase hline (bL (ho pins s σ H _ I h) fun v s1 ⟨x,H1,I1,r1,ty,q1⟩=>?_)
 obtain ⟨h1,h2⟩:=La I1 r1 ty
 exact ⟨T,id,pa,slot,hty,h1,h2,Calls.callWith_builtin rfl (PySem.evalArgs_none (hm pins s1 σ H1 x [] v [] Q I1 r1 .nil q1))⟩
theorem Zg (pa:PlainAttrs T) (slot:Slot T name id) (hty:typeOf (.builtin id)=pure (.type "method_descriptor")) (hm:Qj X id r) (ho:PE X o to) (ha:PA X (e :: es) t)
  (hbase:attributeBase o name X.env (eval o X.env)=eval o X.env:=by rfl)
  (hfew:((backTo cpos (starEach (e :: es) X.env)).all (fun x=>!x.1) && (backToKw cpos (keywordEach [] X.env)).all (fun x=>x.1.isSome)
   && decide ((e :: es).length + ([]:List Keyword).length + (if ([]:List Keyword).isEmpty then 0 else 1) < 30))=true:=by rfl)
  (hline:(apos.endLine == cpos.line)=true:=by rfl) (hs:starEach (e :: es) X.env=(false,eval e X.env) :: starEach es X.env:=by rfl) (hplain:(backTo cpos (starEach es X.env)).any (·.1)=false:=by rfl) :
  PE X (.Call (.Attribute o name apos) (e :: es) [] cpos) (tBM X.K T r to t):=by
 intro pins s σ H Q I h
 refine wpAny_Call_method_late hbase hfew hline rfl (bL (ho pins s σ H _ I h) fun v s1 ⟨x,H1,I1,r1,ty,q1⟩=>?_)
 obtain ⟨h1,h2⟩:=La I1 r1 ty
 refine ⟨T,id,pa,slot,hty,h1,h2,?_⟩
 have hA:=ha cpos pins s1 σ H1 _ I1 q1
 rw [hs] at hA ⊢
 refine Calls.callWith_builtin (by show (false || (backTo cpos (starEach es X.env)).any (·.1))=false; rw [hplain] <;> rfl) (Calls.evalArgs_plain ?_)
 exact bL hA fun us s2 ⟨vs,H2,I2,r2,q2⟩=>hm pins s2 σ H2 x vs v us Q I2 r1 r2 q2
/- xs.append(e),list.index on a module's tuple .. are Qj facts of 06m -/
end
end L2
namespace L2
open PySem PySem.Spec PyProof.Rows
theorem Vals.one:∀ {x:V} {us:List Value},Vals [x] us->∃ u,us=[u]/\RelV x u
 | _,_,.cons r .nil=>⟨_,rfl,r⟩
theorem Vals.two:∀ {x y:V} {us:List Value},Vals [x,y] us->∃ u v,us=[u,v]/\RelV x u/\RelV y v
 | _,_,_,.cons r (.cons q .nil)=>⟨_,_,rfl,r,q⟩
theorem Vals.zero:∀ {us:List Value},Vals [] us->us=[]
 | _,.nil=>rfl
theorem Vals.reverse {xs:List V} {us:List Value} (h:Vals xs us):Vals xs.reverse us.reverse:=by
 induction h with
 | nil=>exact .nil
 | cons r t ih=>rw [List.reverse_cons,List.reverse_cons]; exact Vals.append ih (.cons r .nil)
theorem Vals.rep {xs:List V} {us:List Value} (h:Vals xs us):∀ k:Nat,Vals (List.replicate k xs).flatten (List.replicate k us).flatten
 | 0=>.nil
 | k + 1=>by
  rw [List.replicate_succ,List.replicate_succ,List.flatten_cons,List.flatten_cons]
  exact Vals.append h (Vals.rep h k)
section
variable {X:Cx} {pins:List (Addr×Obj)} {σ:St} {H:Hp} {s:Shared} {l b:Addr} {xs ys zs:List V}
theorem Inv.abB {its:List Value} {t':Nat} (I:Inv X pins σ H s) (hv:Vals ys its) (hz:ys.length<=sizeLine) :
  Inv X pins σ (upd H s.heap.objs.size (.lst ys)) { s with heap:=s.heap.push { cls:=.type "list",data:=.seq its.toArray },toks:=t' } :=
 I.laid (fun _ _ q=>Heap.get?_push_of_some _ q) (Nat.le_refl _) ⟨hz,its,0,hv,Heap.get?_push_size _ rfl⟩
theorem Inv.fresh (I:Inv X pins σ H s):H s.heap.objs.size=none:=I.hok.fresh (Nat.le_refl _)
theorem Inv.Zz (I:Inv X pins σ H s) (hH:H l=some (.lst xs)):xs.length<=sizeLine/\∃ (its:List Value) (n:Nat),Vals xs its/\xs.length=its.length/\s.heap.get? l=some { cls:=.type "list",data:=.seq its.toArray n }:=by
 obtain ⟨z,its,n,r,e⟩:=I.hok l _ hH
 exact ⟨z,its,n,r,r.length,e⟩
end
section
variable {X:Cx}
noncomputable def abp:R2:=fun x y H Q=>∃ l b xs zs,x = .ref l/\y = .ref b/\H l=some (.lst xs)/\H b=some (.lst zs)/\xs.length + zs.length<=sizeLine/\∀ p,H p=none->Q (.ref p) (upd H p (.lst (xs ++ zs)))
theorem WL:lG X (binaryOp .Add) abp:=by
 intro pins s σ H x y v u Q I rx ry h
 obtain ⟨l,b,xs,zs,rfl,rfl,hH,hB,hz,q⟩:=h
 cases rx
 cases ry
 obtain ⟨z,its,n,r,hl,e⟩:=I.Zz hH
 obtain ⟨z2,its2,n2,r2,hl2,e2⟩:=I.Zz hB
 refine PySem.P.add_list e e2 ?_ (by rw [List.size_toArray,List.size_toArray]; lia)
 have ea:its.toArray ++ its2.toArray=(its ++ its2).toArray:=by simp
 rw [ea]
 exact ⟨.ref _,_,I.abB (t':=s.toks) (r.append r2) (by rw [List.length_append]; lia),rfl,q _ I.fresh⟩
end
section
variable {prog:Program} {w:World} {A:Around} {E:Value->Shared->Prop} {s:Shared}
end
section
variable {X:Cx}
end
end L2
namespace Att
open PySem PySem.W PySem.Calls PyProof.Rows
theorem rZ {P:Params} {h:Heap}:∀ (ns:List Int) (vs:List Value),WellAll P h vs (ns.map WData.int)->IntsAre vs ns:=by
 intro ns
 induction ns with
 | nil =>
  intro vs w
  rw [List.map_nil] at w
  cases w
  exact .nil
 | cons n ns ih =>
  intro vs w
  rw [List.map_cons] at w
  cases w with
  | cons a b =>
   cases a
   exact .cons _ _ (ih _ b)
theorem I9 {l:OpenLaw} {n:Nat} (hn:l.most=some n) {P:Params} {h:Heap} {args:List WData} {vals:List Value}
  (hpre:l.row.toRowW.claim.pre args=true) (hwl:WellAll P h vals args) :
  ∃ a vs ns,vals=[Value.ref a]/\args=[WData.list (ns.map WData.int)]/\h.get? a=some { cls:=.type "list",data:=.seq vs.toArray }/\IntsAre vs ns/\ns.length<=n:=by
 have hsh:WShape.hasAll [] args [.list .int]=true:=(pre_splitW hpre).1
 have hc:l.pre.holds [] { args:=args }=true:=(pre_splitW hpre).2
 obtain ⟨d,r,rfl,h1,h2⟩:=hasAllW_cons hsh
 obtain rfl:=hasAllW_nil h2
 obtain ⟨xs,rfl,h3⟩:=hasW_list h1
 obtain ⟨ns,rfl⟩:=items_int h3
 have hlen:ns.length<=n:=by
  unfold OpenLaw.pre at hc
  have h4:(WTm.not (.lt (.lit (.int (n:Int))) (.len (.arg 0)))).holds [] { args:=[.list (ns.map .int)] }=true:=by
   have h4:=(holds_andW hc).1
   rw [hn] at h4
   exact h4
  have h5:=condW_of h4 (w_not (w_lt w_lit (w_len_list (w_arg rfl))))
  rw [List.length_map] at h5
  refine Nat.le_of_not_lt fun q=>?_
  have q':(n:Int) < ((ns.length:Nat):Int):=by lia
  first
   | (rw [decide_eq_true q'] at h5; exact absurd h5 (by decide))
   | (simp at h5; lia)
 cases hwl with
 | cons w1 w2 =>
  cases w2
  cases w1 with
  | list ho hall=>exact ⟨_,_,ns,rfl,rfl,ho,rZ ns _ hall,hlen⟩
theorem Jg (l:OpenLaw) (args:List WData):l.row.toRowW.claim.post args (.bool true) args=true :=
 postW_of (r:=l.row.toRowW) (X:=(true == true))
  (show WShape.has [] (.bool true) .bool=true by first | rfl | decide | simp [WShape.has,WShape.arms,WShape.armsAll])
  (show (WTm.eq .res (.lit (.bool true))).value [] { args:=args,res:=some (.bool true),after:=args }=some (.bool (true == true)) from w_eq_bool (w_res rfl) w_lit) rfl
theorem Dq {l:OpenLaw} {n:Nat} {q:Program} {loose:List Str} {XP:(Str->Option Value)->Heap->Prop} {YP:World->Heap->Prop} {d:DefRec}
  (hn:l.most=some n) (hdf:d.params.defaults=[])
  (call:∀ (w:World) (s₀ s₁:Shared) (mg mb:Str->Option Value) (fa:Addr) (o:Obj) (pm cd doc:Value) (a:Addr) (vs:List Value) (ns:List Int),
   Ground q loose [] XP w s₀ mg mb s₁.heap->YP w s₁.heap ->
   s₁.heap.get? fa=some o->o.data = .func (docDef d.name d.params d.body d.scope pm cd doc)->s₁.heap.CodeRec cd d.name->mg d.name=some (.ref fa) ->
   s₁.heap.get? a=some { cls:=.type "list",data:=.seq vs.toArray }->IntsAre vs ns->ns.length<=n->s₁.gens = #[] ->
   codeAny (model l.prog w) callerA (.call (.ref fa) ⟨[.ref a],[]⟩) (fun r s'=>r = .ok (.ret (.bool true))/\OldK s₁.heap s'.heap/\s'.os=s₁.os/\AllBare s'.gens) s₁) :
  WalkO q loose XP YP l.row.toRowW d [] (fun f vs=>PySem.call f vs):=by
 intro w s₀ s₁ mg mb G Y fa o pm cd doc dV kV ho hd hcd hD hmg hg args vals as hpre hlay hrd hwl hlo
 obtain rfl:dV = .none:=Dflts.none hD hdf
 obtain rfl:kV = .none:=Dflts.noKw hD
 obtain ⟨a,vs,ns,rfl,rfl,hobj,hints,hlen⟩:=I9 hn hpre hwl
 refine enter_call (codeAny_mono (call w s₀ s₁ mg mb fa o pm cd doc a vs ns G Y ho (fd_plain hd) hcd hmg hobj hints hlen hg) fun r s' hq=>?_)
 obtain ⟨rfl,h2,h3,h4⟩:=hq
 exact ⟨.inl ⟨.bool true,.bool true,[],rfl,fun _=>rfl,.bool true,Jg l _,fun _=>⟨List.Pairwise.nil,fun _ hm=>(nomatch hm)⟩⟩,h2,h3,h4⟩
section
variable {prog:Program} {w:World} {A:Around} {E:Value->Shared->Prop} {s:Shared} {K:Frag}
noncomputable def ledger (h:Heap) (L d:Addr):List (Addr×Obj):=(List.range h.objs.size).filterMap fun a=>if a=L∨a=d then none else (h.get? a).map fun o=>(a,o)
end
end Att
namespace L2
open PySem PySem.Spec PyProof.Rows
theorem wW:∀ {vs:List Value} {ns:List Int},IntsAre vs ns->Vals (ns.map V.int) vs
 | _,_,.nil=>.nil
 | _,_,.cons n t h=>.cons ⟨t,rfl⟩ (wW h)
noncomputable def Only (H:Hp):Prop:=∀ b,H b=none∨∃ o xs,H b=some (.bK o (.lst xs))
theorem N5 {P:Program} {w:World} {K:PySem.W.Frag} {mg mb:Str->Option Value} {CX:HY} {k:Nat} {fa a:Addr} {fd:FuncData} {x:Str} {sp:Sp} {s₁:Shared} {vs:List Value} {ns:List Int}
  (KX:K.In s₁.heap) (hns:s₁.heap.Ns mainGlobals mg) (hb:s₁.heap.Ns builtinsNs mb) (hbb:∀ x:Str,x≠"__name__"->mb x=bootBuiltins x) (hlim:s₁.heap.NoLimit) (hsy:∃ mm,s₁.heap.Ns sysModules mm) (hg:s₁.gens = #[])
  (ha:s₁.heap.get? a=some { cls:=.type "list",data:=.seq vs.toArray }) (hi:IntsAre vs ns) (hl:ns.length<=sizeLine) (hr:bU k callerA)
  (F:∀ base:Heap,K.In base->base.Ns mainGlobals mg->cQ P w K mg base CX k fa fd [x] sp) (hbind:∀ (s:Shared) (u:Value),BindsTo s fd ⟨[u],[]⟩ [(x,u)])
  (hsp:∀ H:Hp,Only H->lg K H a (ns.map V.int)->sp [.ref a] H (fun v _=>v = .bl true) fun _ _ _=>False)
  (hCX:∀ H e s',CX [] H s₁ (fun _ _ _=>False) e s'->False) :
  codeAny (model P w) callerA (.call (.ref fa) ⟨[.ref a],[]⟩) (fun r s'=>r = .ok (.ret (.bool true))/\OldK s₁.heap s'.heap/\s'.os=s₁.os/\AllBare s'.gens) s₁:=by
 have rv:=wW hi
 have lenV:=hi.length
 have core:∀ H:Hp,Only H->lg K H a (ns.map V.int)->ni P w H s₁.heap->(∀ b,H b≠none->b=a)->(H a≠none->K.lookup a=none) ->
   codeAny (model P w) callerA (.call (.ref fa) ⟨[.ref a],[]⟩) (fun r s'=>r = .ok (.ret (.bool true))/\OldK s₁.heap s'.heap/\s'.os=s₁.os/\AllBare s'.gens) s₁:=by
  intro H hO hS hok hA hK
  have zZ:∀ {b:Addr} {o:Obj},s₁.heap.get? b=some o->H b=none->(zO s₁.heap H).get? b=some o:=fun e n=>Ol e n
  have Zu:∀ {b:Addr} {o:Obj} {es:Array DictEntry} {ep:Nat},s₁.heap.get? b=some o->o.data = .dict es ep->H b=none:=fun {b o es ep} e d=>by
   cases q:H b with
   | none=>rfl
   | some u =>
    have e':b=a:=hA b (by rw [q]; simp)
    subst e'
    rw [ha] at e; cases e
    have d':Data.seq vs.toArray _=Data.dict es ep:=d
    cases d'
  have Zq:∀ {b:Addr} {m:Str->Option Value},s₁.heap.Ns b m->(zO s₁.heap H).Ns b m:=fun {b m} ⟨o,es,ep,e,d,r⟩=>⟨o,es,ep,zZ e (Zu e d),d,r⟩
  have hKb:K.In (zO s₁.heap H):=fun b o e=>zZ (KX b o e) (by
   cases q:H b with
   | none=>rfl
   | some u =>
    have e':b=a:=hA b (by rw [q]; simp)
    subst e'
    rw [hK (by rw [q]; simp)] at e; cases e)
  have hM:Mod K mg (zO s₁.heap H):=⟨hKb,Zq hns,⟨mb,Zq hb,hbb⟩,let ⟨mc,h1,h2⟩:=hlim; ⟨mc,Zq h1,h2⟩,let ⟨mm,h1⟩:=hsy; ⟨mm,Zq h1⟩⟩
  have e0:Gv P w K mg (zO s₁.heap H) callerA [] s₁ H:=⟨rfl,hM,fun b o e=>RJ e,Nat.le_of_eq (JF _ _),trivial,fun b hb=>absurd (show b∈([]:List Addr) from hb) (by simp),hok,.of_eq hg,fun v q=>nomatch q⟩
  refine codeAny_mono ((F _ hKb (Zq hns)).run callerA [] s₁ H ⟨[.ref a],[]⟩ [.ref a] [.ref a] _ _ hr e0 (hbind s₁ (.ref a)) (.cons rfl .nil) (hsp H hO hS)) fun r s' h=>?_
  cases r with
  | error e=>exact (hCX H e s' h).elim
  | ok fl =>
   cases fl with
   | next=>exact False.elim h
   | brk=>exact False.elim h
   | cont=>exact False.elim h
   | ret u =>
    obtain ⟨v,H',os,bare,un,hok',r',q⟩:=h
    have q':v = .bl true:=q
    subst q'
    obtain rfl:u=Value.bool true:=r'
    refine ⟨rfl,OldK.of_keep fun b o e=>?_,os,bare⟩
    cases q:H b with
    | none=>exact un.keep b o e q (by intro z; exact absurd (show b∈([]:List Addr) from z) (by simp)) (by simp)
    | some u =>
     rcases hO b with z | ⟨ob,xs,z⟩
     ·rw [q] at z; cases z
     ·have z2:=un.iu b ob _ z
      obtain ⟨e1,_⟩:=hok b _ z
      obtain ⟨e2,_⟩:=hok' b _ z2
      rw [e] at e1; cases e1
      exact e2
 cases hk:K.lookup a with
 | some o =>
  have e:=KX a o hk
  rw [ha] at e
  cases e
  refine core (fun _=>none) (fun _=>.inl rfl) (.inr ⟨_,vs.toArray,_,hk,rfl,rfl,rfl,by rw [List.size_toArray,lenV]; exact hl,by simpa using rv⟩) (fun b u z=>by have z':(none:Option HO)=some u:=z; cases z') (fun b z=>absurd rfl z) fun z=>absurd rfl z
 | none =>
  refine core (fun b=>if b=a then some (.bK { cls:=.type "list",data:=.seq vs.toArray } (.lst (ns.map V.int))) else none) (fun b=>?_) (.inl (.inr ⟨{ cls:=.type "list",data:=.seq vs.toArray },if_pos rfl⟩)) (fun b u z=>?_) (fun b z=>?_) fun _=>hk
  ·by_cases hb:b=a
   ·exact .inr ⟨_,_,if_pos hb⟩
   ·exact .inl (if_neg hb)
  ·by_cases hb:b=a
   ·have z':=(if_pos hb).symm.trans z
    cases z'
    subst hb
    exact ⟨ha,by rw [List.length_map]; exact hl,vs,_,rv,ha⟩
   ·have z':=(if_neg hb).symm.trans z
    cases z'
  ·by_cases hb:b=a
   ·exact hb
   ·exact absurd (if_neg hb) z
end L2
namespace L2
open PySem PySem.Spec PyProof.Rows
noncomputable abbrev KOf {K:PySem.W.Frag} {h:Heap} (_:K.In h):PySem.W.Frag:=K
theorem Gw {l:PySem.W.OpenLaw} {n k:Nat} {q:Program} {loose:List Str} {XP:(Str->Option Value)->Heap->Prop} {YP:World->Heap->Prop} {d:DefRec} {K:Params->PySem.W.Frag} {CX:World->HY} {sp:World->Sp} {x:Str}
  (hI:importsNone q=true) (hn:l.most=some n) (hn2:n<=sizeLine) (hdf:d.params.defaults=[]) (hr:bU k callerA)
  (hY:∀ (w:World) (h:Heap),YP w h->(K w.params).In h)
  (F:∀ (w:World) (mg:Str->Option Value) (fa:Addr) (h:Heap),(K w.params).In h->h.Ns mainGlobals mg->mg d.name=some (.ref fa) ->
   ∃ fd:FuncData,(∀ (s:Shared) (u:Value),BindsTo s fd ⟨[u],[]⟩ [(x,u)]) /\
    ∀ base:Heap,(K w.params).In base->base.Ns mainGlobals mg->cQ l.prog w (K w.params) mg base (CX w) k fa fd [x] (sp w))
  (hsp:∀ (w:World) (H:Hp) (a:Addr) (ns:List Int),ns.length<=n->Only H->lg (K w.params) H a (ns.map V.int)->sp w [.ref a] H (fun v _=>v = .bl true) fun _ _ _=>False)
  (hCX:∀ (w:World) (H:Hp) (s:Shared) (e:Value) (s':Shared),CX w [] H s (fun _ _ _=>False) e s'->False) :
  PySem.W.WalkO q loose XP YP l.row.toRowW d [] (fun f vs=>PySem.call f vs):=by
 refine Att.Dq hn hdf fun w s₀ s₁ mg mb fa o pm cd doc a vs ns G Y ho hd hcd hmg hobj hints hlen hg=>?_
 have KX:=hY w _ Y
 obtain ⟨fd,hb,hF⟩:=F w mg fa _ KX G.T.g hmg
 exact N5 KX G.T.g G.T.b G.T.builtins G.T.nolimit (let ⟨mm,z,_⟩:=(G.T.seer hI).mods; ⟨mm,z⟩) hg hobj hints (Nat.le_trans hlen hn2) hr hF hb (fun H hO hS=>hsp w H a ns hlen hO hS) fun H e s'=>hCX w H s₁ e s'
end L2
/- THE LAST THEOREM (shape; LID, My.* are ace):
   My.Adr: a structure of the addresses that your layer names (classes, functions); My.Txt K t: a structure (Prop) of the equations over K;
   My.VN : {K} {implicit addresses ..} (e1 : nsIn K mainGlobals "law" = some (some (.ref f))) (e2 : K.lookup f = some ⟨oc, od, .func (fnOf "law" "law" params body scope dV kV doc pm an cdv ct), sl⟩) (e3 : codeIn K cdv "law" = true) .. : ∃ t, My.Txt K t
set_option maxRecDepth 100000 in
set_option maxHeartbeats 0 in
theorem PySem.Challenge.cw_LID_holds : PySem.Challenge.rw_LID.Holds := by
 w_on; o_law; k_head; (case hw=>w_witness2)
 k_fill
 refine L2.Gw (l:=PySem.Challenge.rw_LID) (n:=63) (k:=40) (x:="script") (CX:=fun w=>..) (sp:=fun _=>My.abh) rfl (by decide) rfl ⟨rfl,by decide,by decide⟩ (fun w h Y=>PySem.W.kIn_of Y) ?F ?S ?C
 case F =>
  intro w mg fa h KX G hmg
  have T:∃ t,My.Txt (L2.KOf KX) t:=by
   dsimp only [L2.KOf] -- K must stand as «<heap const> w.params» for k_is
   refine' My.VN ?e1 ?e2 ?e3 ..
   (case e1=>PySem.W.k_is) -- in the order: a name -> its address -> its object -> its parts
   (case e2=>PySem.W.k_is)
   ..
  obtain ⟨t,T⟩:=T
  have e0:=hmg.symm.trans (PySem.W.mg_of KX G T.law)
  cases e0 -- fa is the law's own address
  exact ⟨_,fun s u=>.of_eq rfl,fun base kb nb=>My.Fy T kb nb⟩ -- if «.of_eq rfl» comes too early: refine' ⟨_,?b,fun base kb nb=>My.Fy T kb nb⟩; exact fun s u=>.of_eq rfl
 case S=>exact fun w H a ns hl hO hS=>..
 case C=>exact ..
(the tactic k_is has no namespace: write k_is) -/
namespace L2
open PySem PySem.Spec PyProof.Rows
noncomputable def jm (s:Stmt):Arguments:=match s with
 | .FunctionDef _ a _ _ _ _ _ _ _ _=>a
 | _=>{ posonlyargs:=[],args:=[],vararg:=none,kwonlyargs:=[],kw_defaults:=[],kwarg:=none,defaults:=[] }
noncomputable def aD (s:Stmt):List Stmt:=match s with
 | .FunctionDef _ _ b _ _ _ _ _ _ _=>b
 | _=>[]
noncomputable def ak (s:Stmt):Scope:=match s with
 | .FunctionDef _ _ _ _ _ _ sc _ _ _=>sc
 | _=>{ kind:=.function,names:=[],isGenerator:=false,isCoroutine:=false }
noncomputable abbrev CX0:HY:=fun _ _ _ _ _ _=>False
noncomputable abbrev E0:XK:=fun _ _ _=>False
structure Ke (K:PySem.W.Frag) (x qual:Str) (st:Stmt) (f:Addr) (fd:FuncData):Prop where
 ex:∃ (oc:Value) (od:Option Addr) (kV doc pm:Value) (an:Option Addr) (cdv ct:Value) (osl:Array (Option Value)),
  fd=PySem.W.fnOf x qual (jm st) (aD st) (ak st) .none kV doc pm an cdv ct/\K.lookup f=some ⟨oc,od,.func fd,osl⟩/\PySem.W.codeIn K cdv qual=true
 kp:PySem.W.keepIn K (.ref f)=true
section
variable {P:Program} {w:World} {K:PySem.W.Frag} {mg:Str->Option Value} {base:Heap}
theorem Ke.ok {x qual:Str} {st:Stmt} {f:Addr} {fd:FuncData} {N ps:List Str} {k:Nat} {sp:Sp} (F:Ke K x qual st f fd) (S:aK N ps (ak st)) (len:∀ vs H Q E,sp vs H Q E->vs.length=ps.length)
  (hbody:∀ (cdv:Value) (A:Around) (outer:List Env) (s:Shared) (H:Hp) (vs:List V) (Q:VK) (E:XK),bU k (A.deeper (envOfC qual (ak st) s.heap.objs.size f cdv))->sp vs H Q E ->
   ∃ t,vV (wM CX0 P w K mg base N qual (ak st) f cdv A outer s H E).Ux (aD st) t/\t { nx:=fun _ H'=>Q .non H',rt:=Q } (start N vs) H):cQ P w K mg base CX0 (k + 1) f fd ps sp:=by
 obtain ⟨oc,od,kV,doc,pm,an,cdv,ct,osl,rfl,lk,hcd⟩:=F.ex
 refine Va lk hcd S len fun A outer s H vs Q E hr hsp=>?_
 obtain ⟨t,h,q⟩:=hbody cdv A outer s H vs Q E hr hsp
 exact ⟨t,h.Ux,q⟩
theorem Ke.binds {x qual:Str} {st:Stmt} {f:Addr} {fd:FuncData} {ps:List Str} (F:Ke K x qual st f fd)
  (h:∀ (kV doc pm:Value) (an:Option Addr) (cdv ct:Value) (us:List Value),us.length=ps.length->bindArgs (PySem.W.fnOf x qual (jm st) (aD st) (ak st) .none kV doc pm an cdv ct) ⟨us,[]⟩=pure (ps.zip us)):Binds K fd ps []:=by
 obtain ⟨oc,od,kV,doc,pm,an,cdv,ct,osl,rfl,lk,hcd⟩:=F.ex
 exact .all (h kV doc pm an cdv ct)
theorem Xy {x qual:Str} {st:Stmt} {f:Addr} {oc:Value} {od an:Option Addr} {osl:Array (Option Value)} {kV doc pm cdv ct:Value} (l:K.lookup f=some ⟨oc,od,.func (PySem.W.fnOf x qual (jm st) (aD st) (ak st) .none kV doc pm an cdv ct),osl⟩)
  (c:PySem.W.codeIn K cdv qual=true) (k:PySem.W.keepIn K (.ref f)=true):Ke K x qual st f (PySem.W.fnOf x qual (jm st) (aD st) (ak st) .none kV doc pm an cdv ct):=⟨⟨oc,od,kV,doc,pm,an,cdv,ct,osl,rfl,l,c⟩,k⟩
end
section
variable {X:Cx}
end
noncomputable def Same (H H':Hp):Prop:=∀ b o,H b=some o->H' b=some o
theorem Same.refl (H:Hp):Same H H:=fun _ _ h=>h
theorem Same.trans {H H1 H2:Hp} (a:Same H H1) (b:Same H1 H2):Same H H2:=fun c o h=>b c o (a c o h)
theorem Same.free {H H':Hp} (e:Same H H') {l:Addr} (h:H' l=Option.none):H l=Option.none:=by
 cases q:H l with
 | none=>rfl
 | some o =>
  rw [e l o q] at h
  cases h
theorem Same.seq {K:PySem.W.Frag} {H H':Hp} {a:Addr} {xs:List V} (e:Same H H') (h:lg K H a xs):lg K H' a xs:=by
 rcases h with (h | ⟨o,h⟩) | h
 ·exact .inl (.inl (e _ _ h))
 ·exact .inl (.inr ⟨o,e _ _ h⟩)
 ·exact .inr h
end L2
end
section
namespace L2
open PySem PySem.Spec PyProof.Rows
section
variable {κ:Type} [DecidableEq κ]
noncomputable def ju (kvs:List (κ×V)) (k:κ):Option V:=(kvs.find? fun kv=>decide (kv.1=k)).map (·.2)
noncomputable def putK (kvs:List (κ×V)) (k:κ) (v:V):List (κ×V) :=
 if (kvs.any fun kv=>decide (kv.1=k))=true then kvs.map (fun kv=>if kv.1=k then (kv.1,v) else kv) else kvs ++ [(k,v)]
noncomputable def Vc (kvs:List (κ×V)) (k:κ):List (κ×V):=kvs.filter fun kv=>decide (kv.1≠k)
theorem oV {p:κ×V} {r:List (κ×V)} {k:κ} (e:p.1=k):ju (p :: r) k=some p.2:=by simp [ju,List.find?_cons,e]
theorem oW {p:κ×V} {r:List (κ×V)} {k:κ} (e:¬ p.1=k):ju (p :: r) k=ju r k:=by simp [ju,List.find?_cons,e]
theorem jK (k:κ):∀ kvs:List (κ×V),(kvs.any fun kv=>decide (kv.1=k))=(ju kvs k).isSome
 | []=>rfl
 | p :: r=>by
  rw [List.any_cons]
  by_cases e:p.1=k
  ·simp only [oV e,decide_eq_true e,Bool.true_or,Option.isSome_some]
  ·rw [oW e,decide_eq_false e,Bool.false_or]; exact jK k r
theorem lY (kvs:List (κ×V)) (k:κ) (v:V):(putK kvs k v).length<=kvs.length + 1:=by
 unfold putK
 split
 ·rw [List.length_map]; lia
 ·rw [List.length_append,List.length_cons,List.length_nil]; lia
theorem qp.jR {o:Option V} {u:Option Value} (r:qp o u):o.isSome=u.isSome:=by
 cases o with
 | none=>cases u with
  | none=>rfl
  | some _=>exact (show False from r).elim
 | some _=>cases u with
  | none=>exact (show False from r).elim
  | some _=>rfl
theorem qp.getD {o:Option V} {u:Option Value} {d:V} {d':Value} (r:qp o u) (rd:RelV d d'):RelV (o.getD d) (u.getD d'):=by
 cases o with
 | none=>cases u with
  | none=>exact rd
  | some _=>exact (show False from r).elim
 | some _=>cases u with
  | none=>exact (show False from r).elim
  | some _=>exact r
theorem KV.val {kvs:List (κ×V)} {vs:List (κ×Value)} (r:KV kvs vs) (k:κ):qp (ju kvs k) (valueAt vs k):=by
 unfold KV at r
 induction r with
 | nil=>exact True.intro
 | @cons p q ps qs h t ih =>
  obtain ⟨h1,h2⟩:=h
  by_cases e:p.1=k
  ·have e':q.1=k:=h1.symm.trans e
   have b:valueAt (q :: qs) k=some q.2:=by simp [valueAt,List.find?_cons,e']
   rw [oV e,b]; exact h2
  ·have e':¬ q.1=k:=fun z=>e (h1.trans z)
   have b:valueAt (q :: qs) k=valueAt qs k:=by simp [valueAt,List.find?_cons,e']
   rw [oW e,b]; exact ih
theorem KV.any {kvs:List (κ×V)} {vs:List (κ×Value)} (r:KV kvs vs) (k:κ):(kvs.any fun kv=>decide (kv.1=k))=vs.any fun kv=>decide (kv.1=k):=by
 unfold KV at r
 induction r with
 | nil=>rfl
 | cons h t ih=>rw [List.any_cons,List.any_cons,ih,h.1]
theorem KV.repl {kvs:List (κ×V)} {vs:List (κ×Value)} (r:KV kvs vs) (k:κ) {y:V} {u:Value} (ry:RelV y u) :
  KV (kvs.map fun kv=>if kv.1=k then (kv.1,y) else kv) (vs.map fun kv=>if kv.1=k then (kv.1,u) else kv):=by
 unfold KV at r ⊢
 induction r with
 | nil=>exact .nil
 | @cons p q ps qs h t ih =>
  rw [List.map_cons,List.map_cons]
  refine .cons ?_ ih
  obtain ⟨h1,h2⟩:=h
  by_cases e:p.1=k
  ·rw [if_pos e,if_pos (h1.symm.trans e)]; exact ⟨h1,ry⟩
  ·rw [if_neg e,if_neg (fun z=>e (h1.trans z))]; exact ⟨h1,h2⟩
theorem KV.put {kvs:List (κ×V)} {vs:List (κ×Value)} (r:KV kvs vs) (k:κ) {y:V} {u:Value} (ry:RelV y u):KV (putK kvs k y) (stored vs k u):=by
 unfold putK stored
 rw [r.any k]
 by_cases e:(vs.any fun kv=>decide (kv.1=k))=true
 ·rw [if_pos e,if_pos e]; exact r.repl k ry
 ·rw [if_neg e,if_neg e]; exact Paired.snoc r ⟨rfl,ry⟩
theorem KV.drop {kvs:List (κ×V)} {vs:List (κ×Value)} (r:KV kvs vs) (k:κ):KV (Vc kvs k) (without vs k):=by
 unfold KV at r ⊢
 unfold Vc without
 induction r with
 | nil=>exact .nil
 | @cons p q ps qs h t ih =>
  obtain ⟨h1,h2⟩:=h
  rw [List.filter_cons,List.filter_cons]
  by_cases e:p.1=k
  ·have a:¬ decide (p.1≠k)=true:=by simp [e]
   have b:¬ decide (q.1≠k)=true:=by simp [h1.symm.trans e]
   rw [if_neg a,if_neg b]; exact ih
  ·have e':¬ q.1=k:=fun z=>e (h1.trans z)
   have a:decide (p.1≠k)=true:=by simp [e]
   have b:decide (q.1≠k)=true:=by simp [e']
   rw [if_pos a,if_pos b]; exact .cons ⟨h1,h2⟩ ih
theorem KV.length {kvs:List (κ×V)} {vs:List (κ×Value)} (r:KV kvs vs):kvs.length=vs.length:=Paired.length r
end
theorem rH {P:Program} {w:World} {k:Key} {u:Value} (r:RelV (kV k) u):(aX P w).is k u=true:=by
 cases k with
 | inl i=>obtain ⟨t,e⟩:=(show ∃ t,u=Value.int i t from r); subst e; exact BR P w i t
 | inr x=>obtain ⟨t,e⟩:=(show ∃ t,u=Value.str x t from r); subst e; exact BP P w x t
theorem xK {P:Program} {w:World}:∀ {ks:List Key} {us:List Value},Vals (ks.map kV) us->ItemsAre (aX P w) ks us
 | [],_,r=>by rw [List.map_nil] at r; cases r; exact .nil
 | k :: ks,_,r=>by
  rw [List.map_cons] at r
  cases r with
  | cons h t=>exact .cons (rH h) (xK t)
noncomputable abbrev KT (H:Hp):List (List Key×V)->List (List Key×Addr×Value)->Prop:=Paired fun p q=>p.1=q.1/\H q.2.1=some (.tup (p.1.map kV))/\RelV p.2 q.2.2
theorem KT.val {H:Hp} {kvs:List (List Key×V)} {xs:List (List Key×Addr×Value)} (r:KT H kvs xs) (k:List Key):qp (ju kvs k) ((atKey xs k).map (·.2)):=by
 induction r with
 | nil=>exact True.intro
 | @cons p q ps qs h t ih =>
  obtain ⟨h1,_,h2⟩:=h
  by_cases e:p.1=k
  ·have e':q.1=k:=h1.symm.trans e
   have b:atKey (q :: qs) k=some q.2:=by simp [atKey,List.find?_cons,e']
   rw [oV e,b]; exact h2
  ·have e':¬ q.1=k:=fun z=>e (h1.trans z)
   have b:atKey (q :: qs) k=atKey qs k:=by simp [atKey,List.find?_cons,e']
   rw [oW e,b]; exact ih
theorem KT.repl {H:Hp} {kvs:List (List Key×V)} {xs:List (List Key×Addr×Value)} (r:KT H kvs xs) (k:List Key) {y:V} {u:Value} (ry:RelV y u) :
  KT H (kvs.map fun kv=>if kv.1=k then (kv.1,y) else kv) (xs.map (putAt k u)):=by
 induction r with
 | nil=>exact .nil
 | @cons p q ps qs h t ih =>
  rw [List.map_cons,List.map_cons]
  refine .cons ?_ ih
  obtain ⟨h1,h2,h3⟩:=h
  unfold putAt
  by_cases e:p.1=k
  ·rw [if_pos e,if_pos (h1.symm.trans e)]; exact ⟨h1,h2,ry⟩
  ·rw [if_neg e,if_neg (fun z=>e (h1.trans z))]; exact ⟨h1,h2,h3⟩
theorem KT.put {H:Hp} {kvs:List (List Key×V)} {xs:List (List Key×Addr×Value)} (r:KT H kvs xs) (k:List Key) {b:Addr} {y:V} {u:Value} (hb:H b=some (.tup (k.map kV))) (ry:RelV y u) :
  KT H (putK kvs k y) (storedH xs k b u):=by
 have e:(kvs.any fun kv=>decide (kv.1=k))=(atKey xs k).isSome:=by
  rw [jK,(r.val k).jR,Option.isSome_map]
 unfold putK storedH
 rw [e]
 by_cases q:(atKey xs k).isSome=true
 ·rw [if_pos q,if_pos q]; exact r.repl k ry
 ·rw [if_neg q,if_neg q]; exact Paired.snoc r ⟨rfl,hb,ry⟩
theorem KT.keeps {H H':Hp} {kvs:List (List Key×V)} {xs:List (List Key×Addr×Value)} (r:KT H kvs xs) (ht:∀ b ys,H b=some (.tup ys)->H' b=some (.tup ys)):KT H' kvs xs :=
 Paired.W2 r fun _ _ z=>⟨z.1,ht _ _ z.2.1,z.2.2⟩
section
variable {P:Program} {w:World} {H:Hp} {h:Heap} {a:Addr}
theorem Us {u:HO} (ok:ni P w H h) (e:Rd H a u):aJ P w H h a u:=e.ok ok
theorem qb {kvs:List (Key×V)} (ok:ni P w H h) (e:Rd H a (.dK kvs)):kvs.length<=sizeLine/\(a == sysModules)=false/\∃ vs,KV kvs vs/\h.DictOf (aX P w) a vs :=
 show aJ P w H h a (.dK kvs) from Us ok e
theorem Vd {kvs:List (Key×V)} (ok:ni P w H h) (e:H a=some (.dK kvs)):kvs.length<=sizeLine/\(a == sysModules)=false/\∃ vs,KV kvs vs/\h.DictOf (aX P w) a vs:=qb ok (.inl e)
theorem mz {ks:List Key} (ok:ni P w H h) (e:H a=some (.tup (ks.map kV))):(tupleKind (aX P w)).is h ks a:=by
 obtain ⟨_,its,r,o,h1,h2,n,h3,_⟩:=(show aJ P w H h a (.tup (ks.map kV)) from ok a _ e)
 exact ⟨o,its.toArray,n,h1,h2,h3,by simpa using xK r⟩
theorem p8 {kvs:List (List Key×V)} (ok:ni P w H h) (e:Rd H a (.dT kvs)):kvs.length<=sizeLine/\(a == sysModules)=false /\
  ∃ xs,KT H kvs xs/\h.DictOfH (tupleKind (aX P w)) a xs:=by
 obtain ⟨z,y,xs,r,o,es,ep,h1,h2,h3,h4,h5⟩:=(show aJ P w H h a (.dT kvs) from Us ok e)
 refine ⟨z,y,xs,r,o,es,ep,h1,h2,h3,h4,fun x hx=>?_,h5⟩
 have all:∀ {l:List (List Key×V)} {m:List (List Key×Addr×Value)},KT H l m->∀ x∈m,(tupleKind (aX P w)).is h x.1 x.2.1:=by
  intro l m q
  induction q with
  | nil=>intro x hx; exact nomatch hx
  | @cons p q ps qs hq t ih =>
   intro x hx
   rcases List.mem_cons.mp hx with e | hx
   ·subst e
    exact mz ok (by rw [<- hq.1]; exact hq.2.1)
   ·exact ih x hx
 exact all r x hx
theorem CV {kvs:List (List Key×V)} (ok:ni P w H h) (e:H a=some (.dT kvs)):kvs.length<=sizeLine/\(a == sysModules)=false /\
  ∃ xs,KT H kvs xs/\h.DictOfH (tupleKind (aX P w)) a xs:=p8 ok (.inl e)
end
noncomputable def lH (H:Hp) (a:Addr) (y:V) (r:Option V):Prop :=
 (∃ kvs k,Rd H a (.dK kvs)/\y=kV k/\r=ju kvs k)∨∃ kvs k b,Rd H a (.dT kvs)/\y = .ref b/\H b=some (.tup (k.map kV))/\r=ju kvs k
noncomputable def Af (H:Hp) (a:Addr) (y v:V) (H':Hp):Prop :=
 (∃ kvs k,H a=some (.dK kvs)/\y=kV k/\kvs.length < sizeLine/\H'=upd H a (.dK (putK kvs k v))) ∨
 ∃ kvs k b,H a=some (.dT kvs)/\y = .ref b/\H b=some (.tup (k.map kV))/\kvs.length < sizeLine/\H'=upd H a (.dT (putK kvs k v))
theorem lH.k {H:Hp} {a:Addr} {kvs:List (Key×V)} {k:Key} (e:H a=some (.dK kvs)):lH H a (kV k) (ju kvs k):=.inl ⟨kvs,k,.inl e,rfl,rfl⟩
theorem lH.t {H:Hp} {a b:Addr} {kvs:List (List Key×V)} {k:List Key} (e:H a=some (.dT kvs)) (eb:H b=some (.tup (k.map kV))):lH H a (.ref b) (ju kvs k):=.inr ⟨kvs,k,b,.inl e,rfl,eb,rfl⟩
theorem Af.k {H:Hp} {a:Addr} {kvs:List (Key×V)} {k:Key} {v:V} (e:H a=some (.dK kvs)) (hl:kvs.length < sizeLine):Af H a (kV k) v (upd H a (.dK (putK kvs k v))):=.inl ⟨kvs,k,e,rfl,hl,rfl⟩
theorem Af.t {H:Hp} {a b:Addr} {kvs:List (List Key×V)} {k:List Key} {v:V} (e:H a=some (.dT kvs)) (eb:H b=some (.tup (k.map kV))) (hl:kvs.length < sizeLine) :
  Af H a (.ref b) v (upd H a (.dT (putK kvs k v))):=.inr ⟨kvs,k,b,e,rfl,eb,hl,rfl⟩
section
variable {X:Cx} {pins:List (Addr×Obj)} {σ:St} {H:Hp} {s:Shared} {a:Addr} {y v:V} {u r:Value} {o:Option V} {A:Around} {E:Value->Shared->Prop}
theorem Inv.big (I:Inv X pins σ H s):sysModules < s.heap.objs.size:=by
 have h:mainGlobals < s.heap.objs.size:=(I.mod.glob.keeps I.bk).lt
 exact Nat.lt_trans (by decide) h
theorem JQ {Q:Value->Shared->Prop} (hu:A.units + 1 < cLine) (I:Inv X pins σ H s) (g:lH H a y (some v)) (ry:RelV y u) (h:∀ w' s',Inv X pins σ H s'->RelV v w'->Q w' s') :
  wpAny (model X.prog X.w) A (getItem (.ref a) u) Q E s:=by
 rcases g with ⟨kvs,k,e,ey,l⟩ | ⟨kvs,k,b,e,ey,eb,l⟩
 ·subst ey
  obtain ⟨z,hd,vs,rel,dd⟩:=qb I.hok e
  obtain ⟨w',hw,Er⟩:=qp.some_of (v:=v) (o:=valueAt vs k) (by rw [l]; exact rel.val k)
  exact wpAny_getItem_of (rH ry) dd.mapOf hw (h w' _ (I.tok _) Er)
 ·subst ey
  cases (show u=Value.ref b from ry)
  obtain ⟨z,hd,xs,rel,dd⟩:=p8 I.hok e
  obtain ⟨w',hw,Er⟩:=qp.some_of (v:=v) (o:=(atKey xs k).map (·.2)) (by rw [l]; exact rel.val k)
  obtain ⟨p,hp,hp2⟩:=Option.map_eq_some_iff.mp hw
  refine wpAny_getItem_heap (tupleKind_room_in1 hu) (mz I.hok eb) dd hp ?_
  rw [hp2]
  exact h w' _ (I.tok _) Er
theorem ab1 {Q:Value->Shared->Prop} (hu:A.units + 1 < cLine) (I:Inv X pins σ H s) (g:lH H a y o) (ry:RelV y u) (h:∀ s',Inv X pins σ H s'->Q (.bool o.isSome) s') :
  wpAny (model X.prog X.w) A (compareOp .In u (.ref a)) Q E s:=by
 rcases g with ⟨kvs,k,e,ey,l⟩ | ⟨kvs,k,b,e,ey,eb,l⟩
 ·subst ey
  obtain ⟨z,hd,vs,rel,dd⟩:=qb I.hok e
  refine wpAny_in_of (rH ry) hd dd.mapOf ?_
  rw [<- (rel.val k).jR,<- l]
  exact h _ (I.tok _)
 ·subst ey
  cases (show u=Value.ref b from ry)
  obtain ⟨z,hd,xs,rel,dd⟩:=p8 I.hok e
  refine wpAny_in_heap (tupleKind_room_in1 hu) (mz I.hok eb) hd dd ?_
  have q:=(rel.val k).jR
  rw [Option.isSome_map] at q
  rw [<- q,<- l]
  exact h _ (I.tok _)
theorem Tr {Q:Value->Shared->Prop} (hu:A.units + 1 < cLine) (I:Inv X pins σ H s) (g:lH H a y o) (ry:RelV y u) (h:∀ s',Inv X pins σ H s'->Q (.bool (!o.isSome)) s') :
  wpAny (model X.prog X.w) A (compareOp .NotIn u (.ref a)) Q E s:=by
 rcases g with ⟨kvs,k,e,ey,l⟩ | ⟨kvs,k,b,e,ey,eb,l⟩
 ·subst ey
  obtain ⟨z,hd,vs,rel,dd⟩:=qb I.hok e
  refine wpAny_notIn_of (rH ry) hd dd.mapOf ?_
  rw [<- (rel.val k).jR,<- l]
  exact h _ (I.tok _)
 ·subst ey
  cases (show u=Value.ref b from ry)
  obtain ⟨z,hd,xs,rel,dd⟩:=p8 I.hok e
  refine wpAny_notIn_heap (tupleKind_room_in1 hu) (mz I.hok eb) hd dd ?_
  have q:=(rel.val k).jR
  rw [Option.isSome_map] at q
  rw [<- q,<- l]
  exact h _ (I.tok _)
theorem qe {h':Heap} {t':Nat} {ob:HO} (I:Inv X pins σ H s) (mu:Mut (H a)) (hs:Heap.SameBut a s.heap h') (he:∃ q,h'.get? a=some q) (new:aJ X.prog X.w (upd H a ob) h' a ob) :
  Inv X pins σ (upd H a ob) { s with heap:=h',toks:=t' } :=
 I.write (x:=a) (e:=a) mu (.inl rfl) (fun b q hb z=>(hs.2 b hb).trans z) he new
theorem Gf {P:Program} {w:World} {H':Hp} {h':Heap} {kvs:List (Key×V)} {vs:List (Key×Value)} (z:kvs.length<=sizeLine) (hd:(a == sysModules)=false) (rel:KV kvs vs) (dd:h'.DictOf (aX P w) a vs) :
  aJ P w H' h' a (.dK kvs):=⟨z,hd,vs,rel,dd⟩
theorem JN {H':Hp} {Q:Unit->Shared->Prop} (hu:A.units + 1 < cLine) (I:Inv X pins σ H s) (g:Af H a y v H') (ry:RelV y u) (rv:RelV v r) (h:∀ s',Inv X pins σ H' s'->Q () s') :
  wpAny (model X.prog X.w) A (setItem (.ref a) u r) Q E s:=by
 rcases g with ⟨kvs,k,e,ey,l,eH⟩ | ⟨kvs,k,b,e,ey,eb,l,eH⟩
 ·subst ey eH
  obtain ⟨z,hd,vs,rel,dd⟩:=Vd I.hok e
  have hz:vs.length<=sizeLine:=by rw [<- rel.length]; exact z
  have hl:(putK kvs k v).length<=sizeLine:=by have:=lY kvs k v; lia
  refine wpAny_setItem_pairs (hsz:=hz) (rH ry) dd fun h' Kd hs=>h _ ?_
  have he:∃ q,h'.get? a=some q:=let ⟨q,_,_,hq,_⟩:=Kd; ⟨q,hq⟩
  exact qe I (by rw [e]; exact True.intro) hs he (Gf hl hd (rel.put k rv) Kd)
 ·subst ey eH
  cases (show u=Value.ref b from ry)
  obtain ⟨z,hd,xs,rel,dd⟩:=CV I.hok e
  have hz:xs.length<=sizeLine:=by rw [<- Paired.length rel]; exact z
  have hl:(putK kvs k v).length<=sizeLine:=by have:=lY kvs k v; lia
  refine wpAny_setItem_heap (hsz:=hz) (tupleKind_room_in1 hu) (mz I.hok eb) dd fun h' Kd hs=>h _ ?_
  obtain ⟨q,es,ep,hq,h2,h3,h4,_,h5⟩:=Kd
  refine qe I (by rw [e]; exact True.intro) hs ⟨q,hq⟩ ⟨hl,hd,_,(rel.put k eb rv).keeps fun c ys ec=>?_,q,es,ep,hq,h2,h3,h4,h5⟩
  rw [aq (Uy ec e (fun z=>nomatch z))]
  exact ec
end
section
variable {X:Cx} {pins:List (Addr×Obj)} {σ:St} {H:Hp} {s:Shared} {a:Addr} {kvs:List (Key×V)} {k:Key} {u:Value} {A:Around} {E:Value->Shared->Prop}
theorem aag {Q:Value->Shared->Prop} (I:Inv X pins σ H s) (e:Rd H a (.dK kvs)) (h:∀ t s',Inv X pins σ H s'->Q (.int kvs.length t) s'):wpAny (model X.prog X.w) A (call (.builtin "len") [.ref a]) Q E s:=by
 obtain ⟨z,hd,vs,rel,dd⟩:=qb I.hok e
 refine call_len_dict hd dd (by rw [<- rel.length]; rw [sizeLine_eq] at z; lia) ?_
 rw [<- rel.length]
 exact h _ _ (I.tok _)
end
noncomputable def aap (i:Expr):Prop:=∀ ov iv,subscripted i false ov iv=operate [ov,iv] (getItem ov iv)
theorem QH {prog:Program} {w:World} {A:Around} {E:Value->Shared->Prop} {s:Shared} {env:Env} {value slice:Expr} {pos:Pos} {T id:String} {Q:Value->Shared->Prop}
  (hl:typeLookup (.type T) "__getitem__" = pure (some (.builtin id))) (hs:aap slice)
  (h:wpAny (model prog w) A (eval value env) (fun o s₁=>wpAny (model prog w) A (eval slice env) (fun i s₂=>s₂.TypeIs o T/\wpAny (model prog w) A (getItem o i) Q E s₂) E s₁) E s) :
  wpAny (model prog w) A (eval (.Subscript value slice pos) env) Q E s:=by
 refine Subscript_ (wpAny_mono h (fun o s₁ h₁=>wpAny_mono h₁ (fun i s₂ h₂=>?_) fun _ _ x=>x) fun _ _ x=>x)
 obtain ⟨hT,h₂⟩:=h₂
 unfold subscriptTail
 refine wpAny_bind ?_
 rw [getitemInPython_of_ne hT.not_modules]
 refine wpAny_bind (wpAny_specialOf hT hl ?_)
 have fin:wpAny (model prog w) A (subscripted slice false o i) (fun r s₃=>wpAny (model prog w) A (letTemporaryGo value o r >>= fun _=>pure r) Q E s₃) E s₂:=by
  rw [hs o i]
  exact wpAny_operating (wpAny_mono h₂ (fun r s₃ h₃=>wpAny_bind (wpAny_letTemporaryGo (wpAny_pure h₃))) fun _ _ x=>x)
 first
  | exact wpAny_pure (wpAny_bind fin)
  | exact wpAny_bind (wpAny_pure (wpAny_bind fin))
  | exact wpAny_bind fin
theorem Dg {X:Cx} {pins:List (Addr×Obj)} {σ:St} {H:Hp} {s:Shared} {a:Addr} {y:V} {o:Option V} (I:Inv X pins σ H s) (g:lH H a y o):s.TypeIs (.ref a) "dict":=by
 rcases g with ⟨kvs,k,e,_,_⟩ | ⟨kvs,k,b,e,_,_,_⟩
 ·obtain ⟨_,_,vs,_,dd⟩:=qb I.hok e
  exact dd.typeIs
 ·obtain ⟨_,_,xs,_,dd⟩:=p8 I.hok e
  exact dd.typeIs
noncomputable def YT (td ty:TE):TE:=fun σ H Q=>td σ H fun x H1=>ty σ H1 fun y H2=>∃ a v,x = .ref a/\lH H2 a y (some v)/\Q v H2
noncomputable def Y9 (td ty tv:TE):TS:=fun D σ H=>tv σ H fun v H1=>td σ H1 fun x H2=>ty σ H2 fun y H3=>∃ a H4,x = .ref a/\Af H3 a y v H4/\D.nx σ H4
section
variable {X:Cx} {o i e value:Expr} {pos pos' tpos:Pos} {td ty tv:TE}
theorem Ru (hu:X.A.units + 1 < cLine) (ho:PE X o td) (hi:PE X i ty) (hs:aap i):PE X (.Subscript o i pos) (YT td ty):=by
 intro pins s σ H Q I h
 refine QH PySem.F.slot_dict_getitem.lookup hs (bL (ho pins s σ H _ I h) fun u s1 ⟨x,H1,I1,rx,q1⟩=>bL (hi pins s1 σ H1 _ I1 q1) fun iv s2 ⟨y,H2,I2,ry,a,v,ex,g,q2⟩=>?_)
 subst ex
 obtain rfl:u=Value.ref a:=rx
 exact ⟨Dg I2 g,JQ hu I2 g ry fun w' s3 I3 Er=>⟨v,H2,I3,Er,q2⟩⟩
theorem Q8 (hu:X.A.units + 1 < cLine) (ho:PE X o td) (hi:PE X i ty) (hv:PE X value tv) (hs:swapsWith value (some (.Subscript o i pos')) pos.line X.env=pure false) :
  PS X (.Assign [.Subscript o i pos'] value pos) (Y9 td ty tv):=by
 intro pins s σ H D I h
 refine wpAny_Assign_Subscript (bL (hv pins s σ H _ I h) fun r s1 ⟨v,H1,I1,rv,q1⟩=>bL (ho pins s1 σ H1 _ I1 q1) fun u s2 ⟨x,H2,I2,rx,q2⟩=>bL (hi pins s2 σ H2 _ I2 q2) fun iv s3 ⟨y,H3,I3,ry,a,H4,ex,g,q3⟩=>?_) hs
 subst ex
 obtain rfl:u=Value.ref a:=rx
 exact JN hu I3 g ry rv fun s4 I4=>⟨σ,H4,I4,q3⟩
end
theorem Df {P:Program} {w:World} {H:Hp} (h:Heap) (hb:sysModules < h.objs.size):aJ P w H (h.push { cls:=.type "dict",data:=.dict #[] }) h.objs.size (.dK []) :=
 ⟨Nat.zero_le _,beq_eq_false_iff_ne.mpr (Ne.symm (Nat.ne_of_lt hb)),[],.nil,Heap.DictOf.new h⟩
theorem CW {P:Program} {w:World} {H:Hp} (h:Heap) (hb:sysModules < h.objs.size):aJ P w H (h.push { cls:=.type "dict",data:=.dict #[] }) h.objs.size (.dT []) :=
 ⟨Nat.zero_le _,beq_eq_false_iff_ne.mpr (Ne.symm (Nat.ne_of_lt hb)),[],.nil,_,#[],0,Heap.get?_push_size _ rfl,⟨rfl,rfl,rfl⟩,rfl,rfl,List.nodup_nil⟩
noncomputable def V2:TE:=fun _ H Q=>∀ p,H p=none->Q (.ref p) (upd H p (.dK []))
noncomputable def V1:TE:=fun _ H Q=>∀ p,H p=none->Q (.ref p) (upd H p (.dT []))
section
variable {X:Cx} {pos:Pos}
theorem Mt:PE X (.Dict [] [] pos) V2:=fun pins s σ H Q I h =>
 wpAny_Dict_empty ⟨.ref s.heap.objs.size,_,I.laid (a:=s.heap.objs.size) (o:=.dK []) (t':=s.toks) (fun _ _ q=>Heap.get?_push_of_some _ q) (Nat.le_refl _) (Df s.heap I.big),rfl,h _ (I.hok.fresh (Nat.le_refl _))⟩
theorem Ms:PE X (.Dict [] [] pos) V1:=fun pins s σ H Q I h =>
 wpAny_Dict_empty ⟨.ref s.heap.objs.size,_,I.laid (a:=s.heap.objs.size) (o:=.dT []) (t':=s.toks) (fun _ _ q=>Heap.get?_push_of_some _ q) (Nat.le_refl _) (CW s.heap I.big),rfl,h _ (I.hok.fresh (Nat.le_refl _))⟩
end
noncomputable def yH:List (TE×TE)->St->Hp->(List (V×V)->Hp->Prop)->Prop
 | [],_,H,Q=>Q [] H
 | (tk,tv) :: r,σ,H,Q=>tk σ H fun x H1=>tv σ H1 fun y H2=>yH r σ H2 fun ps H3=>Q ((x,y) :: ps) H3
noncomputable abbrev VV:List (V×V)->List (Value×Value)->Prop:=Paired fun p q=>RelV p.1 q.1/\RelV p.2 q.2
noncomputable def PPs (X:Cx) (pos:Pos) (keys:List (Option Expr)) (values:List Expr) (QC:List (TE×TE)):Prop :=
 ∀ (pins:List (Addr×Obj)) (s:Shared) (σ:St) (H:Hp) (Q:List (V×V)->Hp->Prop),Inv X pins σ H s->yH QC σ H Q ->
  wpAny (model X.prog X.w) X.A (evalPairs (pairTrees keys values X.env pos)) (fun vs s'=>∃ ps H',Inv X pins σ H' s'/\VV ps vs/\Q ps H') X.xe s
theorem GX {X:Cx} {pos:Pos}:PPs X pos [] [] []:=fun pins s σ H Q I h=>pairTrees_nil_walk ⟨[],H,I,.nil,h⟩
theorem Bs {X:Cx} {pos:Pos} {k v:Expr} {ks:List (Option Expr)} {vs:List Expr} {tk tv:TE} {QC:List (TE×TE)} (hk:PE X k tk) (hv:PE X v tv) (hr:PPs X pos ks vs QC) :
  PPs X pos (some k :: ks) (v :: vs) ((tk,tv) :: QC):=fun pins s σ H Q I h =>
 pairTrees_cons_walk (bL (hk pins s σ H _ I h) fun u s1 ⟨x,H1,I1,rx,q1⟩=>bL (hv pins s1 σ H1 _ I1 q1) fun w2 s2 ⟨y,H2,I2,ry,q2⟩ =>
  bL (hr pins s2 σ H2 _ I2 q2) fun ws s3 ⟨ps,H3,I3,rel,q3⟩=>⟨(x,y) :: ps,H3,I3,.cons ⟨rx,ry⟩ rel,q3⟩)
noncomputable def oh (kvs more:List (Key×V)):List (Key×V):=more.foldl (fun acc kv=>putK acc kv.1 kv.2) kvs
theorem KV.merge:∀ {more:List (Key×V)} {rs:List (Key×Value)} {kvs:List (Key×V)} {vs:List (Key×Value)},KV more rs->KV kvs vs->KV (oh kvs more) (merged vs rs):=by
 intro more rs kvs vs r
 unfold KV at r
 induction r generalizing kvs vs with
 | nil=>intro q; exact q
 | @cons p q ps qs h t ih =>
  intro r0
  have e:KV (putK kvs p.1 p.2) (stored vs q.1 q.2):=by
   have:=r0.put p.1 h.2
   rw [<- h.1]; exact this
  exact ih e
theorem nM:∀ (more kvs:List (Key×V)),(oh kvs more).length<=kvs.length + more.length
 | [],kvs=>by show kvs.length<=kvs.length + 0; lia
 | p :: r,kvs=>by
  have h1:=nM r (putK kvs p.1 p.2)
  have h2:=lY kvs p.1 p.2
  show (oh (putK kvs p.1 p.2) r).length<=_
  rw [List.length_cons]; lia
theorem vp {P:Program} {w:World}:∀ {kvs:List (Key×V)} {ws:List (Value×Value)},VV (kvs.map fun kv=>(kV kv.1,kv.2)) ws->∃ rs,Carries (aX P w) ws rs/\KV kvs rs
 | [],_,r=>by rw [List.map_nil] at r; cases r; exact ⟨[],True.intro,.nil⟩
 | p :: kvs,_,r=>by
  rw [List.map_cons] at r
  cases r with
  | @cons a b as bs h t =>
   obtain ⟨rs,c,q⟩:=vp (P:=P) (w:=w) t
   obtain ⟨b1,b2⟩:=b
   exact ⟨(p.1,b2) :: rs,⟨rH h.1,rfl,c⟩,.cons ⟨rfl,h.2⟩ q⟩
noncomputable def YS (QC:List (TE×TE)):TE:=fun σ H Q=>∀ p,H p=none->yH QC σ (upd H p (.dK [])) fun ps H2=>H2 p=some (.dK [])/\∃ kvs:List (Key×V),ps=kvs.map (fun kv=>(kV kv.1,kv.2))/\kvs.length<=15/\Q (.ref p) (upd H2 p (.dK (oh [] kvs)))
theorem Rr {X:Cx} {pos:Pos} {keys:List (Option Expr)} {values:List Expr} {QC:List (TE×TE)} (h:PPs X pos keys values QC) (hall:keys.all (·.isSome)=true) (hl:keys.length=values.length) (h0:keys≠[])
  (h15:keys.length<=15):PE X (.Dict keys values pos) (YS QC):=by
 intro pins s σ H Q I q
 have hn:=I.hok.fresh (Nat.le_refl s.heap.objs.size)
 have I1:=I.laid (a:=s.heap.objs.size) (o:=.dK []) (h':=s.heap.push { cls:=.type "dict",data:=.dict #[] }) (t':=s.toks) (fun _ _ q=>Heap.get?_push_of_some _ q) (Nat.le_refl _) (Df s.heap I.big)
 refine wpAny_Dict_walk (knd:=aX X.prog X.w) hall hl h0 h15 (bL (h pins _ σ _ _ I1 (q _ hn)) fun ws s2 ⟨ps,H2,I2,rel,e,kvs,ep,lk,q2⟩=>?_)
 subst ep
 obtain ⟨rs,c,rk⟩:=vp (P:=X.prog) (w:=X.w) rel
 obtain ⟨z,hd,vs0,r0,dd⟩:=Vd I2.hok e
 cases r0
 refine ⟨rs,c,dd,fun h' Kd hs=>⟨.ref s.heap.objs.size,_,?_,rfl,q2⟩⟩
 have hz:(oh [] kvs).length<=sizeLine:=by
  have h1:=nM kvs []
  rw [List.length_nil] at h1
  rw [sizeLine_eq]; lia
 have he:∃ q,h'.get? s.heap.objs.size=some q:=let ⟨q,_,_,hq,_⟩:=Kd; ⟨q,hq⟩
 exact qe I2 (by rw [e]; exact True.intro) hs he (Gf hz hd (rk.merge .nil) Kd)
section
variable {X:Cx} {pins:List (Addr×Obj)} {σ:St} {H:Hp} {s:Shared} {a:Addr} {y d:V} {u r:Value} {o:Option V} {A:Around} {E:Value->Shared->Prop}
theorem XS {Q:Value->Shared->Prop} (hu:A.units + 1 < cLine) (I:Inv X pins σ H s) (g:lH H a y o) (ry:RelV y u) (h:∀ w' s',Inv X pins σ H s'->RelV (o.getD .non) w'->Q w' s') :
  wpAny (model X.prog X.w) A (call (.builtin "dict.get") [.ref a,u]) Q E s:=by
 rcases g with ⟨kvs,k,e,ey,l⟩ | ⟨kvs,k,b,e,ey,eb,l⟩
 ·subst ey
  obtain ⟨z,hd,vs,rel,dd⟩:=qb I.hok e
  refine call_meetsIn PySem.F.slot_dict_get dd.typeIs PySem.F.entry_dict_get (PySem.F.args_dict_get_2 _ _) (meets_dict_get (aX X.prog X.w) a (rH ry) hd) ⟨_,dd.mapOf,h _ _ (I.tok _) ?_⟩
  rw [l]
  exact (rel.val k).getD rfl
 ·subst ey
  cases (show u=Value.ref b from ry)
  obtain ⟨z,hd,xs,rel,dd⟩:=p8 I.hok e
  refine call_meetsIn PySem.F.slot_dict_get dd.typeIs PySem.F.entry_dict_get (PySem.F.args_dict_get_2 _ _) (meetsH_dict_get (tupleKind (aX X.prog X.w)) a b hd) ⟨tupleKind_room_in1 hu,k,xs,mz I.hok eb,dd,h _ _ (I.tok _) ?_⟩
  rw [l]
  exact (rel.val k).getD rfl
theorem XR {Q:Value->Shared->Prop} (hu:A.units + 1 < cLine) (I:Inv X pins σ H s) (g:lH H a y o) (ry:RelV y u) (rd:RelV d r) (h:∀ w' s',Inv X pins σ H s'->RelV (o.getD d) w'->Q w' s') :
  wpAny (model X.prog X.w) A (call (.builtin "dict.get") [.ref a,u,r]) Q E s:=by
 rcases g with ⟨kvs,k,e,ey,l⟩ | ⟨kvs,k,b,e,ey,eb,l⟩
 ·subst ey
  obtain ⟨z,hd,vs,rel,dd⟩:=qb I.hok e
  refine call_meetsIn PySem.F.slot_dict_get dd.typeIs PySem.F.entry_dict_get (PySem.F.args_dict_get_3 _ _ _) (meets_dict_get_default (aX X.prog X.w) a (rH ry) hd r) ⟨_,dd.mapOf,h _ _ (I.tok _) ?_⟩
  rw [l]
  exact (rel.val k).getD rd
 ·subst ey
  cases (show u=Value.ref b from ry)
  obtain ⟨z,hd,xs,rel,dd⟩:=p8 I.hok e
  refine call_meetsIn PySem.F.slot_dict_get dd.typeIs PySem.F.entry_dict_get (PySem.F.args_dict_get_3 _ _ _) (meetsH_dict_get_default (tupleKind (aX X.prog X.w)) a b hd r) ⟨tupleKind_room_in1 hu,k,xs,mz I.hok eb,dd,h _ _ (I.tok _) ?_⟩
  rw [l]
  exact (rel.val k).getD rd
end
section
variable {X:Cx} {o e f:Expr} {apos cpos:Pos} {td ty tx:TE}
end
section
variable {X:Cx} {pins:List (Addr×Obj)} {σ:St} {H:Hp} {s:Shared} {a:Addr} {kvs:List (Key×V)} {A:Around} {E:Value->Shared->Prop}
theorem O2 {Q:Value->Shared->Prop} (I:Inv X pins σ H s) (e:Rd H a (.dK kvs)) (h:∀ p s',H p=none->Inv X pins σ (upd H p (.dK kvs)) s'->Q (.ref p) s'):wpAny (model X.prog X.w) A (call (.type "dict") [.ref a]) Q E s:=by
 obtain ⟨z,hd,vs,rel,dd⟩:=qb I.hok e
 refine kt_call_dict hd dd (by rw [<- rel.length]; exact z) fun h' Kd hs=>?_
 refine h _ _ (I.hok.fresh (Nat.le_refl _)) (I.laid (a:=s.heap.objs.size) (o:=.dK kvs) (t':=s.toks) (fun b q hq=>?_) (Nat.le_refl _) (Gf z (beq_eq_false_iff_ne.mpr (Ne.symm (Nat.ne_of_lt I.big))) rel Kd))
 exact (hs.2 b (Nat.ne_of_lt (Heap.lt_size hq))).trans (Heap.get?_push_of_some _ hq)
end
section
variable {X:Cx} {pins:List (Addr×Obj)} {σ:St} {H:Hp} {s:Shared} {a:Addr} {y:V} {u:Value} {A:Around} {E:Value->Shared->Prop}
end
end L2
end
section
namespace DW
open PySem PySem.Spec PyProof.Rows PyProof.Rows.KTD L2
noncomputable def Di (K:PySem.W.Frag) (a:Addr):List (Str×Addr):=match K.lookup a with
 | some o=>(match o.data with
  | .dict es _=>es.toList.filterMap fun e=>(match e.key with | .str x _=>(match e.val with | .ref f=>some (x,f) | _=>none) | _=>none)
  | _=>[])
 | none=>[]
noncomputable def abl (f:Addr) (v:Value):Bool:=v == .ref f
noncomputable def Ve (K:PySem.W.Frag) (a:Addr):Bool:=tabLook abl (fun b=>K.lookup b) a (Di K a) && (Di K a).all fun p=>PySem.W.keepIn K (.ref p.2)
section
variable {prog:Program} {w:World} {A:Around} {E:Value->Shared->Prop} {s:Shared} {K:PySem.W.Frag} {a:Addr} {k:Str} {tk:Tok}
end
section
variable {X:Cx} {x:Str} {a:Addr} {i:Expr} {p pos:Pos} {ti:TE}
end
end DW
end
section
set_option maxHeartbeats 2000000
namespace DW
open PySem PySem.Spec PyProof.Rows L2
noncomputable def Yu (B:Heap) (e:Addr) (ob:Obj) (vs:Array Value) (fl:Value) (h:Heap):Prop :=
 ∃ T oT ts,h.get? e=some { ob with data:=.fields (vs.setIfInBounds 1 (.ref T)) }/\B.get? T=none/\T≠e/\h.get? T=some oT/\oT.data = .fields ts/\ts[3]? = some fl
structure qt (B:Heap) (l:List Env) (e:Addr) (ob:Obj) (vs:Array Value) (fl:Value) (h:Heap):Prop where
 stay:B.StaysIn h
 new:B.get? e=none
 Gb:h.FunFrames B l
 tr:Yu B e ob vs fl h
 two:2 < vs.size
theorem Yu.there {B h:Heap} {e:Addr} {ob:Obj} {vs:Array Value} {fl:Value} (x:Yu B e ob vs fl h):∃ T,h.get? e=some { ob with data:=.fields (vs.setIfInBounds 1 (.ref T)) }:=let ⟨T,_,_,q,_⟩:=x; ⟨T,q⟩
theorem qK {h:Heap} {b e:Addr} {o oe:Obj} {vs:Array Value} (hb:h.get? b=some o) (hn:∀ vs,o.data≠.fields vs) (he:h.get? e=some oe) (hd:oe.data = .fields vs):b≠e:=fun z=>by
 subst z; rw [hb] at he; cases he; exact hn vs hd
theorem Fe {B:Heap} {b e:Addr} {o:Obj} (hb:B.get? b=some o) (he:B.get? e=none):b≠e:=fun z=>by subst z; rw [hb] at he; cases he
section
variable {M:Model} {A:Around} {E:Value->Shared->Prop} {s:Shared} {B:Heap} {env:Env} {outer:List Env} {L e:Addr} {ob:Obj} {ws vs:Array Value} {Q:Unit->Shared->Prop}
theorem d8 {h:Heap} {a:Addr} {f:Obj->Obj}:∀ b,b≠a->(h.update a f).get? b=h.get? b:=fun b hb=>Heap.get?_update_other _ _ (Ne.symm hb)
theorem Hz {hd:Value} {hn:Bool} (fr:A.frames=some (env :: outer)) (F:s.heap.FunFrames B (env :: outer)) (hf:env.frame=some L) (he:s.heap.get? e=some { ob with data:=.fields ws }) (st:B.StaysIn s.heap) (new:B.get? e=none)
  (z:2 < ws.size) (k:∀ h',qt B (env :: outer) e ob ws (rawInt L) h'->s.heap.UpToSlots h'->Q () { s with heap:=h' }) :
  wpAny M A (do let a <- frameOf env; let pl <- entryPlaceOf L hn; let b <- EntryCells.newEntry hd a .none (rawInt L) .none pl; setField (.ref e) 1 b) Q E s:=by
 have eo:e ∉ (env :: outer).filterMap (·.frame):=fun m=>let ⟨_,o,ho,nf⟩:=F.mem m; by rw [he] at ho; cases ho; exact nf ws rfl
 refine wpAny_bind (wpAny_frameOf_fun fr F hf fun g1 sl1=>wpAny_bind (wpAny_entryPlaceOf fun pl ip=>?_))
 unfold EntryCells.newEntry newFields
 refine wpAny_bind (wpAny_newObj_type ?_ (ip.sizeOk5 _ _ _ _ _))
 have e1:g1.get? e=some { ob with data:=.fields ws }:=by rw [sl1.2.1 e eo]; exact he
 have st1:B.StaysIn g1:=fun b o q=>by
  rw [sl1.2.1 b fun m=>(by rw [(F.mem m).1] at q; cases q)]; exact st b o q
 generalize hN:({ cls:=.type "traceback",dict:=none,data:=.fields ([hd,.ref L,.none,rawInt L,.none] ++ (if pl.isEmpty then List.replicate 6 Value.none else pl)).toArray }:Obj)=N
 have dN:N.data = .fields ([hd,.ref L,.none,rawInt L,.none] ++ (if pl.isEmpty then List.replicate 6 Value.none else pl)).toArray:=by rw [<- hN]
 have nN:N.isFreed=false:=by rw [<- hN]; rfl
 have lt:=Heap.lt_size e1
 have Te:g1.objs.size≠e:=Nat.ne_of_gt lt
 refine wpAny_setField (Heap.get?_push_of_some (h:=g1) N e1) rfl (by lia) (k _ ⟨?_,new,?_,?_,z⟩ ?_)
 ·intro b o q
  rw [d8 b (Fe q new)]
  exact Heap.get?_push_of_some _ (st1 b o q)
 ·refine F.of_keeps fun b o hb nf=>?_
  obtain ⟨sl,q⟩:=sl1.2.2 b o hb
  exact ⟨{ o with slots:=sl },by rw [d8 b (qK hb nf he rfl)]; exact Heap.get?_push_of_some _ q,rfl⟩
 ·refine ⟨g1.objs.size,N,_,Heap.get?_update_self _ (Heap.get?_push_of_some (h:=g1) N e1) rfl,st1.fresh,Te,?_,dN,?_⟩
  ·rw [d8 _ Te]; exact Heap.get?_push_size g1 nN
  ·rcases ip with rfl | ⟨_,_,_,_,_,_,_,rfl⟩ <;> simp
 ·intro b o hb nf
  obtain ⟨sl,q⟩:=sl1.2.2 b o hb
  exact ⟨sl,by rw [d8 b (qK hb nf he rfl)]; exact Heap.get?_push_of_some _ q⟩
theorem uh {x:Value} (z:2 < ws.size):(ws.setIfInBounds 1 x)[1]? = some x:=by
 rw [Array.getElem?_setIfInBounds]
 simp; lia
theorem GK {x:Value}:(ws.setIfInBounds 1 x)[2]? = ws[2]?:=by
 rw [Array.getElem?_setIfInBounds]
 simp
theorem set_same {x y:Value}:(ws.setIfInBounds 1 x).setIfInBounds 1 y=ws.setIfInBounds 1 y:=by simp
theorem Nb (fr:A.frames=some (env :: outer)) (F:s.heap.FunFrames B (env :: outer)) (hf:env.frame=some L) (he:s.heap.get? e=some { ob with data:=.fields ws }) (st:B.StaysIn s.heap) (new:B.get? e=none) (z:2 < ws.size)
  (h1:ws[1]? = some .none∨∃ T oT ts,ws[1]? = some (.ref T)/\B.get? T=none/\T≠e/\s.heap.get? T=some oT/\oT.data = .fields ts/\ts[3]? = some .none)
  (k:∀ h',qt B (env :: outer) e ob ws (rawInt L) h'->s.heap.UpToSlots h'->Q () { s with heap:=h' }):wpAny M A (noteFrame (.ref e) env) Q E s:=by
 unfold noteFrame
 simp only [hf]
 rcases h1 with h1 | ⟨T,oT,ts,h1,nT,ne,hT,dT,h3⟩
 ·refine wpAny_bind (wpAny_field he rfl h1 ?_)
  rw [if_neg (by decide)]
  exact Hz fr F hf he st new z k
 ·refine wpAny_bind (wpAny_field he rfl h1 ?_)
  rw [if_pos (by simp:(Value.ref T != Value.none)=true)]
  refine wpAny_bind (wpAny_field hT dT h3 ?_)
  rw [if_neg (by simp [rawInt]:¬ (Value.none == rawInt L)=true)]
  refine wpAny_bind (wpAny_setField hT dT (Array.getElem?_eq_some_iff.mp h3).1 ?_)
  refine Hz (s:={ s with heap:=s.heap.update T _ }) fr (F.of_keeps fun b o hb nf=>⟨o,by rw [d8 b (qK hb nf hT dT)]; exact hb,rfl⟩) hf (by rw [d8 e (Ne.symm ne)]; exact he) (fun b o q=>by rw [d8 b (Fe q nT)]; exact st b o q) new z fun h' x u=>k h' x ?_
  intro b o hb nf
  exact u b o (by rw [d8 b (qK hb nf hT dT)]; exact hb) nf
theorem Fz {l:List Env} {fl:Value} (x:qt B l e ob vs fl s.heap) (k:∀ h',qt B l e ob vs .none h'->s.heap.UpToSlots h'->Q () { s with heap:=h' }):wpAny M A (setFlight (.ref e) none) Q E s:=by
 obtain ⟨st,new,F,⟨T,oT,ts,he,nT,ne,hT,dT,h3⟩,z⟩:=x
 unfold setFlight
 have z3:=(Array.getElem?_eq_some_iff.mp h3).1
 refine wpAny_bind (wpAny_field he rfl (x:=.ref T) (uh z) ?_)
 rw [if_pos (by simp:(Value.ref T != Value.none)=true)]
 obtain ⟨c,d,dt,sl⟩:=oT
 cases dT
 refine wpAny_setField hT rfl z3 (k _ ⟨fun b o q=>by rw [d8 b (Fe q nT)]; exact st b o q,new,F.of_keeps fun b o hb nf=>⟨o,by rw [d8 b (qK hb nf hT rfl)]; exact hb,rfl⟩,⟨T,_,_,by rw [d8 e (Ne.symm ne)]; exact he,nT,ne,Heap.get?_update_self _ hT rfl,rfl,by simp [z3]⟩,z⟩ fun b o hb nf=>⟨o.slots,by rw [d8 b (qK hb nf hT rfl)]; exact hb⟩)
theorem Hg (fr:A.frames=some (env :: outer)) (F:s.heap.FunFrames B (env :: outer)) (hf:env.frame=some L) (he:s.heap.get? e=some { ob with data:=.fields ws }) (st:B.StaysIn s.heap) (new:B.get? e=none) (z:2 < ws.size)
  (h1:ws[1]? = some .none∨∃ T oT ts,ws[1]? = some (.ref T)/\B.get? T=none/\T≠e/\s.heap.get? T=some oT/\oT.data = .fields ts/\ts[3]? = some .none)
  (k:∀ h',qt B outer e ob ws .none h'->s.heap.UpToSlots h'->Q () { s with heap:=h' }):wpAny M A (leaving env (.ref e)) Q E s:=by
 unfold leaving
 refine wpAny_bind (Nb fr F hf he st new z h1 fun h' x u=>Fz (s:={ s with heap:=h' }) x fun h2 y v=>k h2 ⟨y.stay,y.new,?_,y.tr,y.two⟩ (u.trans v))
 obtain ⟨_,_,q⟩:=y.Gb
 exact q
theorem Yu.re {x:Value} {h:Heap} {fl:Value} (y:Yu B e ob (vs.setIfInBounds 1 x) fl h):Yu B e ob vs fl h:=by
 obtain ⟨T,oT,ts,he,r⟩:=y
 rw [set_same] at he
 exact ⟨T,oT,ts,he,r⟩
theorem qt.re {l:List Env} {x:Value} {h:Heap} {fl:Value} (y:qt B l e ob (vs.setIfInBounds 1 x) fl h):qt B l e ob vs fl h:=⟨y.stay,y.new,y.Gb,y.tr.re,by have:=y.two; simpa using this⟩
theorem NQ (fr:A.frames=some (env :: outer)) (hf:env.frame=some L) (x:qt B (env :: outer) e ob vs .none s.heap) (k:∀ h',qt B outer e ob vs .none h'->s.heap.UpToSlots h'->Q () { s with heap:=h' }) :
  wpAny M A (leaving env (.ref e)) Q E s:=by
 obtain ⟨T,oT,ts,he,r⟩:=x.tr
 have z:=x.two
 exact Hg fr x.Gb hf he x.stay x.new (by simpa using z) (.inr ⟨T,oT,ts,uh z,r⟩) fun h' y u=>k h' y.re u
theorem RP (fr:A.frames=some (env :: outer)) (hf:env.frame=some L) (x:qt B (env :: outer) e ob vs .none s.heap) (k:∀ h',qt B (env :: outer) e ob vs (rawInt L) h'->s.heap.UpToSlots h'->Q () { s with heap:=h' }) :
  wpAny M A (noteFrame (.ref e) env) Q E s:=by
 obtain ⟨T,oT,ts,he,r⟩:=x.tr
 have z:=x.two
 exact Nb fr x.Gb hf he x.stay x.new (by simpa using z) (.inr ⟨T,oT,ts,uh z,r⟩) fun h' y u=>k h' y.re u
end
end DW
end
section
namespace DW
open PySem PySem.StrLaws PySem.Builtin PySem.Builtin.Str
noncomputable def Eo (c:Nat):List Nat->List (List Nat)
 | []=>[[]]
 | x :: xs=>if x=c then [] :: Eo c xs else match Eo c xs with | p :: ps=>(x :: p) :: ps | []=>[[x]]
noncomputable def abr (c:Nat) (x:List Nat):List Nat:=x.takeWhile (· != c)
noncomputable def postC (c:Nat) (x:List Nat):List Nat:=(x.dropWhile (· != c)).drop 1
noncomputable def U3 (sep:List Nat):List (List Nat)->List Nat
 | []=>[]
 | [x]=>x
 | x :: y :: r=>x ++ sep ++ U3 sep (y :: r)
end DW
end
section
namespace DW
open PySem
noncomputable abbrev aC:=Sum Int (List Nat)
inductive D where
 | non | bl (b:Bool) | int (i:Int) | str (x:List Nat)
 | tup (ds:List D) | lst (ds:List D) | ro (ds:List D) | loc (n:Nat) | cH (ks:List aC) (ds:List D) | kZ (ks:List aC) (ds:List D)
inductive Cell where
 | lst (ds:List D) | ins (c:String) (fs:List (String×D)) | cH (ks:List aC) (ds:List D) | bW (ks:List (List aC)) (ds:List D) | jG (o:Obj) (ks:List (List aC)) (ds:List D) | exc (c:String) (ks:List String) (ds:List D) | gone | Em | fdi (o:Obj) (ks:List aC) (ds:List D)
noncomputable abbrev Mem:=List Cell
noncomputable abbrev dI:=List (Option D)
noncomputable abbrev QD:=D->Mem->Prop
noncomputable abbrev iZ:=List D->Mem->QD->Prop
noncomputable abbrev QX:=String->List String->List D->Mem->Prop
noncomputable abbrev iY:=List D->Mem->QD->QX->Prop
set_option genInjectivity false
mutual
inductive E where
 | var (i:Nat) | cst (d:D) | Xw (x:Str) (d:D)
 | bin (op:Operator) (a b:E) | neg (a:E) | not (a:E)
 | cmp (op:CmpOp) (a b:E) | wN (a b:E) (n:Bool:=false) | chain (p q:CmpOp) (a b c:E)
 | and (a b:E) | or (a b:E)
 | call (x:Str) (sp:iZ) (as:Es) | blt (x:String) (as:Es) | Gq (x:String) (a b:E)
 | isin (a:E) (t:String) (ks:Option (List (List Nat)):=none)
 | Qa (m:String) (o:E) (as:Es) | U9 (pre mid:List Nat) (x:Str) (i:Int) (y:Str) (j:Int) (b:Bool:=true)
 | idx (a b:E) | slc (m:Bool) (a:E) (lo hi:Es)
 | tup (as:Es) | lst (m:Bool) (as:Es) | dsp (ks:List aC) (as:Es)
 | comp (m:Bool) (tg:Nat) (tt:Bool) (cap:List Nat) (elt:E) (it:It) (cond:Es)
 | bK (a:E) (th:Option Nat:=none) | Nx (m:Option Bool) (a:E) (r:Bool:=false)
 | Dc (t:Bool) | qd (o i:E)
 | wG (a:E) (tt:Bool) (ts:List String) (tab:List (String×Bool))
inductive Es where
 | nil | cons (e:E) (es:Es)
inductive It where
 | seq (e:E) | rng (as:Es) | enum (a:E) (t:Bool:=false)
end
set_option genInjectivity true
inductive XC where
 | fn (x:Str) (sp:iY) (as:Es)
set_option genInjectivity false
mutual
inductive S where
 | set (i:Nat) (e:E) | IW (is:List Nat) (e:E) | par (i j:Nat) (a b:E)
 | dput (o i e:E) | wZ (o i e:E)
 | exp (e:E) | ret (e:E)
 | ite (c:E) (a b:Ss) | for_ (tg:List Nat) (tt:Bool) (it:It) (b:Ss) | whl (c:E) (b:Ss)
 | Kc
 | p7 (c:XC) | IV (i:Nat) (c:XC) | Je (c:String) (as:Es) | Ir (P:String) (tab:List String) (i:Nat) (b h:Ss)
inductive Ss where
 | nil | cons (s:S) (r:Ss)
end
set_option genInjectivity true
noncomputable def b2i (b:Bool):Int:=if b then 1 else 0
mutual
noncomputable def flat:Nat->D->Bool
 | _,.non=>true
 | _,.bl _=>true
 | _,.int _=>true
 | _,.str x=>x.all (· < 1114112)
 | n + 1,.tup ds=>flats n ds
 | n + 1,.lst ds=>flats n ds
 | _,_=>false
noncomputable def flats:Nat->List D->Bool
 | _,[]=>true
 | n,d :: ds=>flat n d && flats n ds
end
mutual
noncomputable def iw:D->D->Bool
 | .non,e=>match e with | .non=>true | _=>false
 | .bl a,e=>match e with | .bl b=>a == b | .int j=>b2i a == j | _=>false
 | .int i,e=>match e with | .int j=>i == j | .bl b=>i == b2i b | _=>false
 | .str x,e=>match e with | .str y=>x == y | _=>false
 | .tup ds,e=>match e with | .tup es=>wJ ds es | _=>false
 | .lst ds,e=>match e with | .lst es=>wJ ds es | _=>false
 | .ro ds,_=>false
 | .loc _,_=>false
 | .cH ks ds,e=>match e with | .cH ls es=>decide (ks=ls) && wJ ds es | _=>false
 | .kZ _ _,_=>false
noncomputable def wJ:List D->List D->Bool
 | [],es=>es.isEmpty
 | d :: ds,es=>match es with | []=>false | e :: es=>iw d e && wJ ds es
end
noncomputable def iQ:List Nat->List Nat->Bool
 | _,[]=>false
 | [],_ :: _=>true
 | x :: xs,y :: ys=>if x=y then iQ xs ys else decide (x < y)
noncomputable def Y8:D->Bool
 | .int _=>true
 | .str _=>true
 | _=>false
mutual
noncomputable def vR:D->D->Option Bool
 | .int i,e=>match e with | .int j=>some (decide (i < j)) | _=>none
 | .str x,e=>match e with | .str y=>some (iQ x y) | _=>none
 | .tup ds,e=>match e with | .tup es=>if (ds.all Y8 && es.all Y8)=true then uQ ds es else none | _=>none
 | _,_=>none
noncomputable def uQ:List D->List D->Option Bool
 | [],es=>some (!es.isEmpty)
 | d :: ds,es=>match es with
  | []=>some false
  | e :: es=>if iw d e then uQ ds es else vR d e
end
noncomputable abbrev Itm:=Int×List Nat
noncomputable def itD (x:Itm):D:=.tup [.int x.1,.str x.2]
noncomputable def Cd (x y:Itm):Bool:=if x.1=y.1 then iQ x.2 y.2 else decide (x.1 < y.1)
noncomputable def aG (μ:Mem):D->Option (List D)
 | .lst ds=>some ds
 | .tup ds=>some ds
 | .ro ds=>some ds
 | .loc n=>match μ[n]? with | some (.lst ds)=>some ds | _=>none
 | _=>none
noncomputable def lenOf (μ:Mem):D->Option Nat
 | .str x=>some x.length
 | d=>(aG μ d).map (·.length)
noncomputable def dX (μ:Mem):D->Option (List D)
 | .tup _=>none
 | d=>aG μ d
noncomputable def truth (μ:Mem):D->Option Bool
 | .non=>some false
 | .bl b=>some b
 | .int i=>some (i != 0)
 | .cH ks _=>some (ks.length != 0)
 | d=>(lenOf μ d).map (· != 0)
noncomputable def wH (have_ want:String):Bool:=have_ == want || (have_ == "bool" && want == "int")
noncomputable def tyOf (μ:Mem):D->Option String
 | .non=>some "NoneType" | .bl _=>some "bool" | .int _=>some "int" | .str _=>some "str"
 | .tup _=>some "tuple" | .lst _=>some "list" | .cH _ _=>some "dict" | .ro _=>none | .kZ _ _=>none
 | .loc n=>match μ[n]? with | some (.lst _)=>some "list" | some (.cH _ _)=>some "dict" | some (.bW _ _)=>some "dict" | some (.jG _ _ _)=>some "dict" | _=>none
noncomputable def lM (t:String) (d:D) (μ:Mem) (Q:QD):Prop:=match tyOf μ d with
 | some h=>Q (.bl (wH h t)) μ
 | none=>False
noncomputable def YB (ks:List (List Nat)) (d:D) (μ:Mem) (Q:QD):Prop:=match d with
 | .str t=>Q (.bl (ks.contains t)) μ
 | _=>False
noncomputable def abj (a b c:Int):Int:=if c > 0 then (if a < b then (b - a - 1) / c + 1 else 0) else (if a > b then (a - b - 1) / (-c) + 1 else 0)
noncomputable def aM (lo:Int) (n:Nat):List D:=(List.range n).map fun (k:Nat)=>D.int (lo + (k:Int))
noncomputable def wF (n:Nat) (i:Int):Option Nat:=if 0<=i then (if i < n then some i.toNat else none) else if -(n:Int)<=i then some (i + n).toNat else none
noncomputable def Ep (n d:Nat):Option Int->Nat
 | none=>d
 | some v=>if v < 0 then (v + (n:Int)).toNat else min v.toNat n
noncomputable def cutD {α:Type} (xs:List α) (lo hi:Option Int):List α:=(xs.drop (Ep xs.length 0 lo)).take (Ep xs.length xs.length hi - Ep xs.length 0 lo)
noncomputable def lim:Nat:=16777216
noncomputable def newL (m:Bool) (ds:List D) (μ:Mem) (Q:QD):Prop:=match m with
 | true=>Q (.loc μ.length) (μ ++ [.lst ds])
 | false=>Q (.lst ds) μ
noncomputable def newR:Option Bool->List D->Mem->QD->Prop
 | some m,ds,μ,Q=>newL m ds μ Q
 | none,ds,μ,Q=>Q (.tup ds) μ
noncomputable def aaS:Option Bool->D->Mem->QD->Prop
 | some m,d,μ,Q=>(match dX μ d with | some as=>newL m as.reverse μ Q | none=>False)
 | none,d,μ,Q=>(match d with | .tup ds=>Q (.tup ds.reverse) μ | _=>False)
noncomputable def lrM (r:Bool):String:=if r then "reversed" else "range"
noncomputable def lrN:Option Bool->String
 | some _=>"list"
 | none=>"tuple"
noncomputable def vM (i j:Int):Prop:=(-(2 ^ 64) < i/\i < 2 ^ 64)∨(-(2 ^ 64) < j/\j < 2 ^ 64)
noncomputable def vN (j:Int):Prop:=0 < j/\j < 2 ^ 500
noncomputable def H9 (i j:Int):Prop:=0<=j/\j<=1000000/\i.natAbs < 2 ^ 64
noncomputable def gO (op:Operator) (x y:D) (μ:Mem) (Q:QD):Prop :=
 match x,y with
 | .int i,.int j=>match op with
  | .Add=>Q (.int (i + j)) μ
  | .Sub=>Q (.int (i - j)) μ
  | .Mult=>vM i j/\Q (.int (i * j)) μ
  | .FloorDiv=>vN j/\Q (.int (i / j)) μ
  | .Mod=>0 < j/\Q (.int (i % j)) μ
  | .Pow=>H9 i j/\Q (.int (i ^ j.toNat)) μ
  | _=>False
 | .str a,.str b=>match op with
  | .Add=>a.length + b.length<=lim/\Q (.str (a ++ b)) μ
  | _=>False
 | .str a,.int k=>match op with
  | .Mult=>(0<=k/\k<=1000/\1<=a.length/\a.length<=1000)/\Q (.str (List.replicate k.toNat a).flatten) μ
  | _=>False
 | .lst a,.lst b=>match op with
  | .Add=>a.length + b.length<=lim/\Q (.lst (a ++ b)) μ
  | _=>False
 | .tup a,.tup b=>match op with
  | .Add=>a.length + b.length<=lim/\Q (.tup (a ++ b)) μ
  | _=>False
 | _,_=>False
noncomputable def jz (μ:Mem):Nat->D->D
 | 0,d=>d
 | n + 1,d=>match d with
  | .tup ds=>.tup (ds.map (jz μ n))
  | .lst ds=>.lst (ds.map (jz μ n))
  | .loc k=>match μ[k]? with | some (.lst ds)=>.lst (ds.map (jz μ n)) | _=>.loc k
  | d=>d
noncomputable def Qn (neg:Bool) (x y:D) (μ:Mem) (Q:QD):Prop:=flat 60 (jz μ 8 x)=true/\flat 60 (jz μ 8 y)=true/\Q (.bl (neg != iw (jz μ 8 x) (jz μ 8 y))) μ
noncomputable def Cr:D->Bool
 | .non=>true
 | _=>false
noncomputable def je:D->Option aC
 | .int i=>some (.inl i)
 | .str x=>some (.inr x)
 | _=>none
noncomputable def fB:List D->Option (List aC)
 | []=>some []
 | d :: ds=>match je d with | some k=>(fB ds).map (k :: ·) | none=>none
noncomputable def uY {κ:Type} [DecidableEq κ] (ks:List κ) (k:κ):Bool:=decide (k∈ks)
theorem mF {κ:Type} [DecidableEq κ] {ks:List κ} {k:κ}:uY ks k=true<->k∈ks:=by unfold uY; simp
noncomputable def Ao (neg:Bool) (x y:D) (μ:Mem) (Q:QD):Prop:=match y with
 | .loc n=>(match μ[n]? with
  | some (.cH ks _)=>(match je x with | some k=>Q (.bl (neg != uY ks k)) μ | none=>False)
  | some (.bW ks _)=>(match x with | .tup es=>(match fB es with | some k=>Q (.bl (neg != uY ks k)) μ | none=>False) | _=>False)
  | _=>False)
 | _=>False
noncomputable def Gx (d:D) (μ:Mem) (Q:QD):Prop:=match d with
 | .loc n=>(match μ[n]? with | some (.cH ks _)=>Q (.int ks.length) μ | some (.bW ks _)=>Q (.int ks.length) μ | some (.jG _ ks _)=>Q (.int ks.length) μ | _=>False)
 | _=>False
noncomputable def Vo (n:Nat) (y:D) (μ:Mem) (Q:QD):Prop:=match μ[n]? with
 | some (.lst ds)=>(match y with | .lst []=>Q (.bl (!ds.isEmpty)) μ | _=>False)
 | _=>False
noncomputable def cM (op:CmpOp) (x y:D) (μ:Mem) (Q:QD):Prop :=
 match op with
 | .Eq=>flat 60 x=true/\flat 60 y=true/\Q (.bl (iw x y)) μ
 | .NotEq=>match x with
  | .loc n=>Vo n y μ Q
  | x=>flat 60 x=true/\flat 60 y=true/\Q (.bl (!iw x y)) μ
 | .Lt=>match vR x y with | some b=>Q (.bl b) μ | none=>False
 | .LtE=>match x,y with
  | .int i,.int j=>Q (.bl (decide (i<=j))) μ
  | .str a,.str b=>Q (.bl (!iQ b a)) μ
  | _,_=>False
 | .Gt=>match x,y with
  | .int i,.int j=>Q (.bl (decide (j < i))) μ
  | _,_=>False
 | .GtE=>match x,y with
  | .int i,.int j=>Q (.bl (decide (j<=i))) μ
  | _,_=>False
 | .Is=>match y with | .non=>Q (.bl (Cr x)) μ | .bl b=>(match x with | .bl a=>Q (.bl (a == b)) μ | _=>False) | _=>False
 | .IsNot=>match y with | .non=>Q (.bl (!Cr x)) μ | .bl b=>(match x with | .bl a=>Q (.bl (a != b)) μ | _=>False) | _=>False
 | .In=>match y with
  | .str t=>(match x with | .str a=>(match a with | [c]=>Q (.bl (t.contains c)) μ | _=>False) | _=>False)
  | y=>(match aG μ y with | some ds=>flats 60 ds=true/\flat 60 x=true/\Q (.bl (ds.any fun d=>iw d x)) μ | none=>Ao false x y μ Q)
 | .NotIn=>match y with
  | .str t=>(match x with | .str a=>(match a with | [c]=>Q (.bl (!t.contains c)) μ | _=>False) | _=>False)
  | y=>(match aG μ y with | some ds=>flats 60 ds=true/\flat 60 x=true/\Q (.bl (!ds.any fun d=>iw d x)) μ | none=>Ao true x y μ Q)
noncomputable def Qm (x y:D) (μ:Mem) (Q:QD):Prop:=match x with
 | .loc n=>(match μ[n]? with | some (.cH _ _)=>(match y with | .tup _=>True | _=>False)/\Q (.bl false) μ | _=>False)
 | x=>cM .Eq x y μ Q
noncomputable def aH {κ:Type} [DecidableEq κ]:List κ->List D->κ->Option D
 | k' :: ks,d :: ds,k=>if k'=k then some d else aH ks ds k
 | _,_,_=>none
noncomputable def Ib (x y:D) (μ:Mem) (Q:QD):Prop:=match x with
 | .loc n=>(match μ[n]? with
  | some (.cH _ _)=>(match y with | .loc m=>(match μ[m]? with | some (.lst _)=>Q (.bl true) μ | _=>False) | _=>False)
  | some (.bW ks ds)=>(match y with
   | .loc m=>(match μ[m]? with
    | some (.bW ls es)=>(ks.length=ls.length/\∀ k∈ks,∃ i:Int,aH ks ds k=some (.int i)/\aH ls es k=some (.int i))/\Q (.bl false) μ
    | _=>False)
   | _=>False)
  | _=>Qn true (.loc n) y μ Q)
 | x=>Qn true x y μ Q
noncomputable def allB:List D->Option Bool
 | []=>some true
 | .bl b :: ds=>(allB ds).map (b && ·)
 | _ :: _=>none
noncomputable def iT:List D->Option (List Int)
 | []=>some []
 | .int i :: ds=>(iT ds).map (i :: ·)
 | _ :: _=>none
noncomputable def iy (i:Int):List Nat:=(Str.ofString (toString i)).cps.toList
noncomputable def zB:List String:=["len","abs","all","sum","max","min","list","divmod","int","dict"]
noncomputable def wB3 (b:String) (d e f:D) (μ:Mem) (Q:QD):Prop:=match b with
 | "min3"=>(match d,e,f with | .int i,.int j,.int k=>Q (.int (min (min i j) k)) μ | _,_,_=>False)
 | _=>False
theorem Vr {b:String} {d e f:D} {μ:Mem} {Q:QD} (hb:b≠"min3"):¬ wB3 b d e f μ Q:=by
 unfold wB3
 split
 ·exact absurd rfl hb
 ·exact id
noncomputable def aaT (d:D) (μ:Mem) (Q:QD):Prop:=False
noncomputable def tI (l:List Int):D:=.tup (l.map .int)
noncomputable def ltI:List Int->List Int->Bool
 | _,[]=>false
 | [],_ :: _=>true
 | x :: xs,y :: ys=>if x=y then ltI xs ys else decide (x < y)
noncomputable def Qp (d:D) (μ:Mem) (Q:QD):Prop:=match d with
 | .kZ ks ds=>Q (.loc μ.length) (μ ++ [.cH ks ds])
 | .loc n=>(match μ[n]? with | some (.cH ks ds)=>Q (.loc μ.length) (μ ++ [.cH ks ds]) | _=>False)
 | _=>False
noncomputable def aV (b:String) (ds:List D) (μ:Mem) (Q:QD):Prop :=
 match ds with
 | [d]=>match b with
  | "len"=>match lenOf μ d with | some n=>Q (.int n) μ | none=>Gx d μ Q
  | "abs"=>match d with | .int i=>Q (.int (if i < 0 then -i else i)) μ | _=>False
  | "all"=>match (dX μ d).bind allB with | some r=>Q (.bl r) μ | none=>False
  | "sum"=>match (aG μ d).bind iT with | some r=>Q (.int r.sum) μ | none=>False
  | "max"=>match (dX μ d).bind iT with | some (i :: is)=>Q (.int (is.foldl max i)) μ | _=>False
  | "min"=>match (dX μ d).bind iT with | some (i :: is)=>Q (.int (is.foldl min i)) μ | _=>False
  | "list"=>match aG μ d with | some es=>Q (.lst es) μ | none=>aaT d μ Q
  | "int"=>match d with | .int i=>Q (.int i) μ | .bl b=>Q (.int (if b then 1 else 0)) μ | .str x=>∃ n:Int,(x.length<=640/\intText? ⟨x.toArray⟩=some n)/\Q (.int n) μ | _=>False
  | "dict"=>Qp d μ Q
  | _=>False
 | [d,e]=>match b with
  | "divmod"=>match d,e with | .int i,.int j=>vN j/\Q (.tup [.int (i / j),.int (i % j)]) μ | _,_=>False
  | "max"=>match d,e with | .int i,.int j=>Q (.int (if j > i then j else i)) μ | _,_=>False
  | "min"=>match d,e with | .int i,.int j=>Q (.int (if j < i then j else i)) μ | _,_=>False
  | _=>False
 | [d,e,f]=>wB3 b d e f μ Q
 | _=>False
noncomputable def YC (d e:D) (μ:Mem) (Q:QD):Prop :=
 match (dX μ d).bind iT with
 | some []=>Q e μ
 | some (i :: is)=>Q (.int (is.foldl max i)) μ
 | _=>False
noncomputable def Ko (n:Nat) (d e:D) (μ:Mem) (Q:QD):Prop:=match je d with
 | some k=>μ[n]? = some (.cH [] [])/\Q (.loc n) (μ.set n (.cH [k] [e]))
 | none=>False
noncomputable def Vp (n:Nat) (d e:D) (μ:Mem) (Q:QD):Prop:=match d with
 | .tup ds=>(match fB ds with
  | some k=>μ[n]? = some (.bW [] [])/\Q (.loc n) (μ.set n (.bW [k] [e]))
  | none=>False)
 | _=>False
noncomputable def aaU (d e:D) (μ:Mem) (Q:QD):Prop:=match (dX μ d).bind iT with
 | some is=>is.length < 64/\(∃ i:Nat,μ[i]? = some .Em)/\(match e with
  | .loc m=>(match μ[m]? with
   | some (.cH ks ds)=>∃ g:Int->Int,(∀ z∈is,aH ks ds (.inl z)=some (.int (g z)))/\∀ is':List Int,is'.Perm is->(is'.Pairwise fun a b=>ltI [g b,b] [g a,a]=false)->Q (.lst (is'.map .int)) μ
   | _=>False)
  | _=>False)
 | none=>False
noncomputable def aaX (d:D) (μ:Mem) (Q:QD):Prop:=match dX μ d with
 | some ds=>Q (.loc μ.length) (μ ++ [.cH ((List.range ds.length).map fun (n:Nat)=>Sum.inl (n:Int)) ds])
 | none=>False
noncomputable def Kp (b:String) (n:Nat) (d e:D) (μ:Mem) (Q:QD):Prop:=if b = "{}" then Ko n d e μ Q else if b = "{t}" then Vp n d e μ Q else if b = "ksort" then aaU d e μ Q else if b = "dicten" then aaX d μ Q else YC d e μ Q
noncomputable def cB {κ:Type} [DecidableEq κ] (ks:List κ) (k:κ):List κ:=if k∈ks then ks else ks ++ [k]
noncomputable def dw {κ:Type} [DecidableEq κ] (ks:List κ) (ds:List D) (k:κ) (d:D):List D:=if k∈ks then List.zipWith (fun k' d'=>if k'=k then d else d') ks ds else ds ++ [d]
noncomputable def rE (x y:D) (μ:Mem) (Q:QD):Prop:=match x with
 | .kZ ks ds=>(match je y with | some k=>(match aH ks ds k with | some d=>Q d μ | none=>False) | none=>False)
 | .loc n=>match μ[n]? with
  | some (.cH ks ds)=>(match je y with | some k=>(match aH ks ds k with | some d=>Q d μ | none=>False) | none=>False)
  | some (.bW ks ds)=>(match y with | .tup es=>(match fB es with | some k=>(match aH ks ds k with | some d=>Q d μ | none=>False) | none=>False) | _=>False)
  | some (.jG _ ks ds)=>(match y with | .tup es=>(match fB es with | some k=>(match aH ks ds k with | some d=>Q d μ | none=>False) | none=>False) | _=>False)
  | _=>False
 | _=>False
noncomputable def jH (x y v:D) (μ:Mem) (k:Mem->Prop):Prop:=match x with
 | .loc n=>match μ[n]? with
  | some (.cH ks ds)=>(match je y with | some q=>ks.length < lim/\k (μ.set n (.cH (cB ks q) (dw ks ds q v))) | none=>False)
  | some (.bW ks ds)=>(match y with | .tup es=>(match fB es with | some q=>ks.length < lim/\k (μ.set n (.bW (cB ks q) (dw ks ds q v))) | none=>False) | _=>False)
  | _=>False
 | _=>False
noncomputable def vX (tab:List (String×Bool)) (d:D) (μ:Mem) (Q:QD):Prop:=match d with
 | .loc n=>(match μ[n]? with | some (.exc c _ _)=>(match tab.lookup c with | some b=>Q (.bl b) μ | none=>False) | _=>False)
 | _=>False
noncomputable def Uq:List D->Option (List (List Nat))
 | []=>some []
 | .str x :: ds=>(Uq ds).map (x :: ·)
 | _ :: _=>none
noncomputable def txM (m:String):Bool:=["join","split","partition","startswith"].contains m
noncomputable def abF:D->Bool
 | .str _=>true
 | _=>false
noncomputable def Yy (m:String) (t:List Nat) (c:Nat) (μ:Mem) (Q:QD):Prop:=match m with
 | "split"=>(c < 256/\t.length < lim)/\∃ m:Bool,newL m ((Eo c t).map .str) μ Q
 | "partition"=>if c∈t then Q (.tup [.str (abr c t),.str [c],.str (postC c t)]) μ else Q (.tup [.str t,.str [],.str []]) μ
 | "startswith"=>Q (.bl (t.head? == some c)) μ
 | _=>False
noncomputable def aaP (m:String) (x:D) (es:List D) (μ:Mem) (Q:QD):Prop:=match x with
 | .str t=>(match es with
  | [.str [c]]=>Yy m t c μ Q
  | [d]=>(match (dX μ d).bind Uq with
   | some ws=>m = "join"/\(ws.map List.length).sum + ws.length * t.length<=lim/\Q (.str (U3 t ws)) μ
   | none=>False)
  | _=>False)
 | _=>False
noncomputable def abG (μ:Mem):D->Bool
 | .lst _=>true
 | .loc n=>match μ[n]? with | some (.lst _)=>true | _=>false
 | _=>false
noncomputable def aaR (m:String) (ns:List Int) (k:Int) (μ:Mem) (Q:QD):Prop:=match m with | "index"=>k∈ns/\Q (.int (ns.idxOf k:Nat)) μ | "count"=>Q (.int (ns.count k:Nat)) μ | _=>False
noncomputable def Jy (μ:Mem):D->Bool
 | .loc n=>match μ[n]? with | some (.cH _ _)=>true | some (.bW _ _)=>true | _=>false
 | _=>false
noncomputable def zG (m:String) (μ:Mem) (d:D):Bool:=if m = "get"∨m = "pop"∨m = "clear" then Jy μ d else if txM m=true then abF d else abG μ d
noncomputable def Qo (x:D) (es:List D) (μ:Mem) (Q:QD):Prop:=match x with
 | .loc n=>(match μ[n]? with
  | some (.cH ks ds)=>(match es with | [k,z]=>(match je k with | some q=>Q ((aH ks ds q).getD z) μ | none=>False) | _=>False)
  | some (.bW ks ds)=>(match es with | [.tup k]=>(match fB k with | some q=>Q ((aH ks ds q).getD .non) μ | none=>False) | _=>False)
  | _=>False)
 | _=>False
noncomputable def Vq (x:D) (es:List D) (μ:Mem) (Q:QD):Prop:=match x with
 | .loc n=>(match μ[n]? with
  | some (.bW _ _)=>es=[]/\Q .non (μ.set n (.bW [] []))
  | _=>False)
 | _=>False
noncomputable def Gh {κ:Type} [DecidableEq κ]:List κ->κ->List κ
 | k' :: ks,k=>if k'=k then Gh ks k else k' :: Gh ks k
 | [],_=>[]
noncomputable def Gg {κ:Type} [DecidableEq κ]:List κ->List D->κ->List D
 | k' :: ks,d :: ds,k=>if k'=k then Gg ks ds k else d :: Gg ks ds k
 | _,_,_=>[]
noncomputable def aaW (x:D) (es:List D) (μ:Mem) (Q:QD):Prop:=match x with
 | .loc n=>(match μ[n]? with
  | some (.cH ks ds)=>(match es with | [k]=>(match je k with | some q=>(match aH ks ds q with | some d=>Q d (μ.set n (.cH (Gh ks q) (Gg ks ds q))) | none=>False) | none=>False) | _=>False)
  | _=>False)
 | _=>False
noncomputable def aaV (x:D) (es:List D) (μ:Mem) (Q:QD):Prop:=∃ (r:List Itm) (y:Itm) (j:Nat),dX μ x=some (r.map itD)/\es=[itD y]/\r[j]? = some y/\(∀ m,m < j->r[m]?≠some y)/\Q (.int (j:Nat)) μ
noncomputable def aaQ (m:String) (x:D) (es:List D) (μ:Mem) (Q:QD):Prop:=match (dX μ x).bind iT with
 | some ns=>(match es with
  | [.int k]=>aaR m ns k μ Q
  | _=>False)
 | none=>m = "index"/\aaV x es μ Q
noncomputable def qx (m:String) (x:D) (es:List D) (μ:Mem) (Q:QD):Prop:=if m = "get" then Qo x es μ Q else if m = "clear" then Vq x es μ Q else if m = "pop" then aaW x es μ Q else if txM m=true then aaP m x es μ Q else aaQ m x es μ Q
noncomputable def nq (x y:D) (μ:Mem) (Q:QD):Prop :=
 match x,y with
 | x,.int i=>match aG μ x with
  | some ds=>match (wF ds.length i).bind (ds[·]?) with | some d=>Q d μ | none=>False
  | none=>False
 | _,_=>False
noncomputable def Ia (m:Bool) (x:D) (lo hi:Option Int) (μ:Mem) (Q:QD):Prop :=
 match x with
 | .lst ds=>newL m (cutD ds lo hi) μ Q
 | .loc n=>match μ[n]? with | some (.lst ds)=>newL m (cutD ds lo hi) μ Q | _=>False
 | _=>False
noncomputable def yh (d:D) (μ:Mem) (Q:QD):Prop :=
 match d with
 | .loc n=>match μ[n]? with | some (.lst ds)=>Q (.lst ds) (μ.set n .gone) | some (.cH ks ds)=>Q (.kZ ks ds) (μ.set n .gone) | some (.bW ks ds)=>∀ o,Q (.loc n) (μ.set n (.jG o ks ds)) | some (.jG _ _ _)=>Q (.loc n) μ | _=>False
 | d=>Q d μ
noncomputable def jW (d:D) (μ:Mem) (Q:Bool->Mem->Prop):Prop:=match truth μ d with | some b=>Q b μ | none=>False
noncomputable def gK (d:D) (μ:Mem) (Q:Bool->Mem->Prop):Prop:=match d with | .bl b=>Q b μ | _=>False
noncomputable def DX (d:D) (μ:Mem) (Q:Int->Mem->Prop):Prop:=match d with | .int i=>Q i μ | _=>False
noncomputable abbrev QI:=List D->(Mem->Prop)->Mem->Prop
noncomputable def Am (d:D) (μ:Mem) (Q:QI):Prop :=
 match d with
 | .lst ds=>Q ds (fun _=>True) μ
 | .tup ds=>Q ds (fun _=>True) μ
 | .ro ds=>Q ds (fun _=>True) μ
 | .kZ ks _=>∃ is:List Int,ks=is.map Sum.inl/\Q (is.map .int) (fun _=>True) μ
 | .loc n=>match μ[n]? with
  | some (.lst ds)=>Q ds (fun μ'=>μ'[n]? = some (.lst ds)) μ
  | some (.jG o ks ds)=>∃ is:List (List Int),ks=is.map (fun l=>l.map Sum.inl)/\Q (is.map tI) (fun μ'=>μ'[n]? = some (.jG o ks ds)) μ
  | _=>False
 | _=>False
noncomputable def lq (n:Nat) (ds:List D) (μ:Mem) (Q:QI):Prop :=
 match n,ds with
 | 1,[.int j]=>j<=lim/\-(2 ^ 62)<=j/\Q (aM 0 j.toNat) (fun _=>True) μ
 | 2,[.int i,.int j]=>(j - i<=lim/\-(2 ^ 62)<=i/\i < 2 ^ 62/\-(2 ^ 62)<=j/\j < 2 ^ 62)/\Q (aM i (j - i).toNat) (fun _=>True) μ
 | _,_=>False
noncomputable def j7:List (List Int)->List D->List D
 | l :: is,d :: ds=>.tup [tI l,d] :: j7 is ds
 | _,_=>[]
noncomputable def Km (x:D) (μ:Mem) (Q:QI):Prop:=match x with
 | .loc n=>(match μ[n]? with
  | some (.jG o ks ds)=>∃ is:List (List Int),ks=is.map (fun l=>l.map Sum.inl)/\Q (j7 is ds) (fun μ'=>μ'[n]? = some (.jG o ks ds)) μ
  | _=>False)
 | _=>False
noncomputable def cL (is:List Nat) (tt:Bool) (d:D) (ρ:dI) (k:dI->Prop):Prop :=
 match tt with
 | false=>match is with | [i]=>k (ρ.set i (some d)) | _=>False
 | true=>match d with | .tup ds=>ds.length=is.length/\k ((is.zip ds).foldl (fun r p=>r.set p.1 (some p.2)) ρ) | _=>False
noncomputable def bindC (n:Nat) (tt:Bool) (d:D) (r:dI) (k:dI->Prop):Prop :=
 match tt with
 | false=>k (some d :: r)
 | true=>match d with | .tup ds=>ds.length=n/\k (ds.map some ++ r) | _=>False
noncomputable def jJ (bnd:D->(dI->Prop)->Prop) (cw:dI->Mem->(Bool->Mem->Prop)->Prop) (ew:dI->Mem->QD->Prop) (g:Mem->Prop):List D->List D->Mem->(List D->Mem->Prop)->Prop
 | [],acc,μ,Q=>g μ/\Q acc μ
 | d :: ds,acc,μ,Q=>g μ/\bnd d fun ρ=>cw ρ μ fun b μ1=>if b=true then ew ρ μ1 fun v μ2=>jJ bnd cw ew g ds (acc ++ [v]) μ2 Q else jJ bnd cw ew g ds acc μ1 Q
noncomputable def gB:Es->Nat
 | .nil=>0
 | .cons _ es=>gB es + 1
noncomputable def ZL:E->Bool
 | .blt _ _=>true
 | _=>false
mutual
noncomputable def wE:E->dI->Mem->QD->Prop
 | .var i,ρ,μ,Q=>match ρ[i]? with | some (some d)=>Q d μ | _=>False
 | .cst d,_,μ,Q=>Q d μ
 | .Xw _ d,_,μ,Q=>Q d μ
 | .bin op a b,ρ,μ,Q=>wE a ρ μ fun x μ1=>wE b ρ μ1 fun y μ2=>gO op x y μ2 Q
 | .neg a,ρ,μ,Q=>wE a ρ μ fun x μ1=>match x with | .int i=>Q (.int (-i)) μ1 | _=>False
 | .not a,ρ,μ,Q=>wE a ρ μ fun x μ1=>gK x μ1 fun b μ2=>Q (.bl (!b)) μ2
 | .cmp op a b,ρ,μ,Q=>wE a ρ μ fun x μ1=>wE b ρ μ1 fun y μ2=>cM op x y μ2 Q
 | .wN a b n,ρ,μ,Q=>wE a ρ μ fun x μ1=>wE b ρ μ1 fun y μ2=>match n with
  | false=>Qm x y μ2 Q
  | true=>Ib x y μ2 Q
 | .chain p q a b c,ρ,μ,Q=>wE a ρ μ fun x μ1=>wE b ρ μ1 fun y μ2=>cM p x y μ2 fun r μ3=>gK r μ3 fun t μ3 =>
   if t=true then wE c ρ μ3 fun z μ4=>cM q y z μ4 Q else Q (.bl false) μ3
 | .and a b,ρ,μ,Q=>wE a ρ μ fun x μ1=>gK x μ1 fun t μ2=>if t=true then wE b ρ μ2 Q else Q (.bl false) μ2
 | .or a b,ρ,μ,Q=>wE a ρ μ fun x μ1=>gK x μ1 fun t μ2=>if t=true then Q (.bl true) μ2 else wE b ρ μ2 Q
 | .call _ sp as,ρ,μ,Q=>wEs as ρ μ fun ds μ1=>sp ds μ1 Q
 | .blt x as,ρ,μ,Q=>wEs as ρ μ fun ds μ1=>aV x ds μ1 Q
 | .Gq x a b,ρ,μ,Q=>wE a ρ (if x = "{}" then μ ++ [.cH [] []] else if x = "{t}" then μ ++ [.bW [] []] else μ) fun d μ1=>wE b ρ μ1 fun e μ2=>Kp x μ.length d e μ2 Q
 | .isin a t,ρ,μ,Q=>wE a ρ μ fun d μ1=>lM t d μ1 Q
 | .isin a _ (some ks),ρ,μ,Q=>wE a ρ μ fun d μ1=>YB ks d μ1 Q
 | .Qa m o as,ρ,μ,Q=>wE o ρ μ fun x μ1=>zG m μ1 x=true/\wEs as ρ μ1 fun ds μ2=>qx m x ds μ2 Q
 | .U9 pre mid _ i _ _ false,_,μ,Q=>(i.natAbs.log2 < 1920/\(pre ++ iy i ++ mid).length<=10000)/\Q (.str (pre ++ iy i ++ mid)) μ
 | .U9 pre mid _ i _ j true,_,μ,Q=>(i.natAbs.log2 < 1920/\j.natAbs.log2 < 1920/\(pre ++ iy i ++ mid ++ iy j).length<=10000)/\Q (.str (pre ++ iy i ++ mid ++ iy j)) μ
 | .idx a b,ρ,μ,Q=>wE a ρ μ fun x μ1=>wE b ρ μ1 fun y μ2=>nq x y μ2 Q
 | .slc m a lo hi,ρ,μ,Q=>wE a ρ μ fun x μ1=>wO lo ρ μ1 fun l μ2=>wO hi ρ μ2 fun h μ3=>Ia m x l h μ3 Q
 | .tup as,ρ,μ,Q=>wEs as ρ μ fun ds μ1=>ds.length<=lim/\Q (.tup ds) μ1
 | .lst m as,ρ,μ,Q=>wEs as ρ μ fun ds μ1=>ds.length<=lim/\newL m ds μ1 Q
 | .dsp ks as,ρ,μ,Q=>wEs as ρ μ fun ds μ1=>ks.length=ds.length/\Q (.loc μ1.length) (μ1 ++ [.cH ks ds])
 | .comp m n tt cap elt it cond,ρ,μ,Q=>wI it ρ μ fun ds g μ1 =>
   jJ (fun d k=>bindC n tt d (cap.map fun i=>(ρ[i]?).join) k) (fun ρ' μ' Q'=>wTs cond ρ' μ' Q') (fun ρ' μ' Q'=>wE elt ρ' μ' Q') g ds [] μ1 fun vs μ2=>newL m vs μ2 Q
 | .bK a,ρ,μ,Q=>wE a ρ μ fun d μ1=>yh d μ1 Q
 | .bK a (some i),ρ,μ,Q=>match ρ[i]? with
  | some (some (.loc n))=>(match μ[n]? with
   | some (.bW ks ds)=>∀ o,wE a ρ (μ.set n (.jG o ks ds)) fun d μ1=>μ1[n]? = some (.jG o ks ds)/\Q d (μ1.set n (.bW ks ds))
   | _=>False)
  | _=>False
 | .Dc t,_,μ,Q=>Q (.loc μ.length) (μ ++ [if t=true then .bW [] [] else .cH [] []])
 | .qd o i,ρ,μ,Q=>wE o ρ μ fun x μ1=>wE i ρ μ1 fun y μ2=>rE x y μ2 Q
 | .Nx m a r,ρ,μ,Q=>wE a ρ μ fun d μ1=>match r with
  | false=>DX d μ1 fun j μ2=>(-(2 ^ 62)<=j/\j<=lim)/\newR m (aM 0 j.toNat) μ2 Q
  | true=>aaS m d μ1 Q
 | .wG a _ _ tab,ρ,μ,Q=>wE a ρ μ fun d μ1=>vX tab d μ1 Q
noncomputable def wEs:Es->dI->Mem->(List D->Mem->Prop)->Prop
 | .nil,_,μ,Q=>Q [] μ
 | .cons e es,ρ,μ,Q=>wE e ρ μ fun d μ1=>wEs es ρ μ1 fun ds μ2=>Q (d :: ds) μ2
noncomputable def wO:Es->dI->Mem->(Option Int->Mem->Prop)->Prop
 | .nil,_,μ,Q=>Q none μ
 | .cons e es,ρ,μ,Q=>wE e ρ μ fun d μ1=>match es with | .nil=>DX d μ1 fun i μ2=>Q (some i) μ2 | _=>False
noncomputable def wT:E->dI->Mem->(Bool->Mem->Prop)->Prop
 | .not a,ρ,μ,Q=>wT a ρ μ fun b μ1=>Q (!b) μ1
 | .and a b,ρ,μ,Q=>wT a ρ μ fun t μ1=>if t=true then wT b ρ μ1 Q else Q false μ1
 | .or a b,ρ,μ,Q=>wT a ρ μ fun t μ1=>if t=true then Q true μ1 else wT b ρ μ1 Q
 | .var i,ρ,μ,Q=>match ρ[i]? with | some (some d)=>jW d μ Q | _=>False
 | .cst d,_,μ,Q=>jW d μ Q
 | .cmp op a b,ρ,μ,Q=>wE a ρ μ fun x μ1=>wE b ρ μ1 fun y μ2=>cM op x y μ2 fun r μ3=>gK r μ3 Q
 | .wN a b n,ρ,μ,Q=>wE a ρ μ fun x μ1=>wE b ρ μ1 fun y μ2=>match n with
  | false=>Qm x y μ2 fun r μ3=>gK r μ3 Q
  | true=>Ib x y μ2 fun r μ3=>gK r μ3 Q
 | .chain p q a b c,ρ,μ,Q=>wE a ρ μ fun x μ1=>wE b ρ μ1 fun y μ2=>cM p x y μ2 fun r μ3=>gK r μ3 fun t μ3 =>
   if t=true then wE c ρ μ3 fun z μ4=>cM q y z μ4 fun r μ5=>gK r μ5 Q else Q false μ3
 | .call _ sp as,ρ,μ,Q=>wEs as ρ μ fun ds μ1=>sp ds μ1 fun d μ2=>jW d μ2 Q
 | .idx a b,ρ,μ,Q=>wE a ρ μ fun x μ1=>wE b ρ μ1 fun y μ2=>nq x y μ2 fun d μ3=>jW d μ3 Q
 | .blt x as,ρ,μ,Q=>wEs as ρ μ fun ds μ1=>aV x ds μ1 fun d μ2=>jW d μ2 Q
 | .Qa m o as,ρ,μ,Q=>wE o ρ μ fun x μ1=>zG m μ1 x=true/\wEs as ρ μ1 fun ds μ2=>qx m x ds μ2 fun d μ3=>jW d μ3 Q
 | .isin a t,ρ,μ,Q=>wE a ρ μ fun d μ1=>lM t d μ1 fun r μ2=>gK r μ2 Q
 | .isin a _ (some ks),ρ,μ,Q=>wE a ρ μ fun d μ1=>YB ks d μ1 fun r μ2=>gK r μ2 Q
 | .wG a _ _ tab,ρ,μ,Q=>wE a ρ μ fun d μ1=>vX tab d μ1 fun r μ2=>gK r μ2 Q
 | .bK a (some i),ρ,μ,Q=>ZL a=true/\(match ρ[i]? with
  | some (some (.loc n))=>(match μ[n]? with
   | some (.bW ks ds)=>∀ o,wE a ρ (μ.set n (.jG o ks ds)) fun d μ1=>μ1[n]? = some (.jG o ks ds)/\jW d (μ1.set n (.bW ks ds)) Q
   | _=>False)
  | _=>False)
 | _,_,_,_=>False
noncomputable def wTs:Es->dI->Mem->(Bool->Mem->Prop)->Prop
 | .nil,_,μ,Q=>Q true μ
 | .cons e es,ρ,μ,Q=>wT e ρ μ fun b μ1=>match es with | .nil=>Q b μ1 | _=>False
noncomputable def wI:It->dI->Mem->QI->Prop
 | .seq e,ρ,μ,Q=>wE e ρ μ fun d μ1=>Am d μ1 Q
 | .rng as,ρ,μ,Q=>wEs as ρ μ fun ds μ1=>lq (gB as) ds μ1 Q
 | .enum a,ρ,μ,Q=>False
 | .enum a true,ρ,μ,Q=>wE a ρ μ fun x μ1=>Km x μ1 Q
end
structure jr where
 nx:dI->Mem->Prop
 rt:QD
 bk:dI->Mem->Prop:=fun _ _=>False
 ct:dI->Mem->Prop:=fun _ _=>False
 xc:dI->QX:=fun _ _ _ _ _=>False
noncomputable def tO (bnd:D->dI->(dI->Prop)->Prop) (bw:jr->dI->Mem->Prop) (g:Mem->Prop) (Z:jr):List D->dI->Mem->Prop
 | [],ρ,μ=>g μ/\Z.nx ρ μ
 | d :: ds,ρ,μ=>g μ/\bnd d ρ fun ρ'=>bw { Z with nx:=tO bnd bw g Z ds,ct:=tO bnd bw g Z ds,bk:=Z.nx } ρ' μ
noncomputable def qy (o i v:D) (μ:Mem) (k:Mem->Prop):Prop :=
 match o,i with
 | .loc n,.int j=>match μ[n]? with
  | some (.lst xs)=>match wF xs.length j with | some p=>k (μ.set n (.lst (xs.set p v))) | none=>False
  | _=>False
 | _,_=>False
noncomputable def Yz (i j:Nat) (ds:List D) (ρ:dI) (μ:Mem) (k:dI->Mem->Prop):Prop:=match ds with
 | [x,y]=>k ((ρ.set i (some x)).set j (some y)) μ
 | _=>False
noncomputable def DR:XC->(dI->QX)->dI->Mem->QD->Prop
 | .fn _ sp as,X,ρ,μ,Q=>wEs as ρ μ fun ds μ1=>sp ds μ1 Q (X ρ)
mutual
noncomputable def wS:S->jr->dI->Mem->Prop
 | .set i e,Z,ρ,μ=>wE e ρ μ fun d μ1=>Z.nx (ρ.set i (some d)) μ1
 | .IW is e,Z,ρ,μ=>wE e ρ μ fun d μ1=>cL is true d ρ fun ρ'=>Z.nx ρ' μ1
 | .par i j a b,Z,ρ,μ=>wE a ρ μ fun x μ1=>wE b ρ μ1 fun y μ2=>Yz i j [x,y] ρ μ2 Z.nx
 | .dput o i e,Z,ρ,μ=>wE e ρ μ fun v μ1=>wE o ρ μ1 fun x μ2=>wE i ρ μ2 fun y μ3=>jH x y v μ3 fun μ4=>Z.nx ρ μ4
 | .wZ o i e,Z,ρ,μ=>wE e ρ μ fun v μ1=>wE o ρ μ1 fun x μ2=>wE i ρ μ2 fun y μ3=>qy x y v μ3 fun μ4=>Z.nx ρ μ4
 | .exp e,Z,ρ,μ=>wE e ρ μ fun _ μ1=>Z.nx ρ μ1
 | .ret e,Z,ρ,μ=>wE e ρ μ Z.rt
 | .ite c a b,Z,ρ,μ=>wT c ρ μ fun t μ1=>if t=true then wSs a Z ρ μ1 else wSs b Z ρ μ1
 | .for_ tg tt it b,Z,ρ,μ=>wI it ρ μ fun ds g μ1=>tO (fun d r k=>cL tg tt d r k) (fun Z' r m=>wSs b Z' r m) g Z ds ρ μ1
 | .whl c b,Z,ρ,μ=>∃ W:Nat->dI->Mem->Prop,(∃ m,W m ρ μ)/\∀ m ρ μ,W m ρ μ->wT c ρ μ fun t μ1 =>
   if t=true then wSs b { Z with nx:=fun ρ' μ'=>∃ m',m' < m/\W m' ρ' μ',ct:=fun ρ' μ'=>∃ m',m' < m/\W m' ρ' μ',bk:=Z.nx } ρ μ1 else Z.nx ρ μ1
 | .Kc,_,_,_=>False
 | .p7 c,Z,ρ,μ=>DR c Z.xc ρ μ fun _ μ1=>Z.nx ρ μ1
 | .IV i c,Z,ρ,μ=>DR c Z.xc ρ μ fun d μ1=>Z.nx (ρ.set i (some d)) μ1
 | .Je c as,Z,ρ,μ=>wEs as ρ μ fun ds μ1=>ds.length<=lim/\Z.xc ρ c [] [] μ1
 | .Ir _ tab i b h,Z,ρ,μ=>wSs b { Z with xc:=fun ρ' c ks ds μ'=>tab.contains c=true/\wSs h { nx:=fun _ _=>False,rt:=Z.rt } (ρ'.set i (some (.loc μ'.length))) (μ' ++ [.exc c ks ds]) } ρ μ
noncomputable def wSs:Ss->jr->dI->Mem->Prop
 | .nil,Z,ρ,μ=>Z.nx ρ μ
 | .cons s r,Z,ρ,μ=>wS s { Z with nx:=fun ρ' μ'=>wSs r Z ρ' μ' } ρ μ
end
end DW
end
section
namespace DW
open PySem
noncomputable def aL (N:List Str) (ds:List D):dI:=ds.map some ++ List.replicate (N.length - ds.length) none
noncomputable def iB (Q:QD):jr:=⟨fun _ μ=>Q .non μ,Q,fun _ _=>False,fun _ _=>False,fun _ _ _ _ _=>False⟩
noncomputable def lN (Q:QD) (X:QX):jr:=⟨fun _ μ=>Q .non μ,Q,fun _ _=>False,fun _ _=>False,fun _=>X⟩
noncomputable def Keeps (N:List Str) (i:Ss) (sp:iZ):Prop:=∀ ds μ Q,sp ds μ Q->wSs i (iB Q) (aL N ds) μ
noncomputable def mU (N:List Str) (i:Ss) (sp:iY):Prop:=∀ ds μ Q X,sp ds μ Q X->wSs i (lN Q X) (aL N ds) μ
noncomputable def vq (sp:iY):iZ:=fun ds μ Q=>sp ds μ Q fun _ _ _ _=>False
noncomputable def uf:iZ:=fun ds μ Q=>∃ ns:List Int,ds=[.ro (ns.map D.int)]/\ns.length<=63/\∀ μ',Q (.bl true) μ'
theorem aU {bnd:D->dI->(dI->Prop)->Prop} {bw:jr->dI->Mem->Prop} {g:Mem->Prop} {Z:jr} (Inv:List D->dI->Mem->Prop)
  (hs:∀ d ds ρ μ N,(∀ ρ μ,Inv ds ρ μ->N ρ μ)->Inv (d :: ds) ρ μ->g μ/\bnd d ρ fun ρ'=>bw { Z with nx:=N,ct:=N,bk:=Z.nx } ρ' μ)
  (he:∀ ρ μ,Inv [] ρ μ->g μ/\Z.nx ρ μ):∀ (ds:List D) (ρ:dI) (μ:Mem),Inv ds ρ μ->tO bnd bw g Z ds ρ μ
 | [],ρ,μ,h=>he ρ μ h
 | d :: ds,ρ,μ,h=>hs d ds ρ μ _ (fun ρ μ q=>aU Inv hs he ds ρ μ q) h
theorem qz {bnd:D->(dI->Prop)->Prop} {cw:dI->Mem->(Bool->Mem->Prop)->Prop} {ew:dI->Mem->QD->Prop} {g:Mem->Prop} {Q:List D->Mem->Prop} (Inv:List D->List D->Mem->Prop)
  (hs:∀ d ds acc μ (Y:D->Mem->Prop) (N:Mem->Prop),(∀ v μ,Inv ds (acc ++ [v]) μ->Y v μ)->(∀ μ,Inv ds acc μ->N μ)->Inv (d :: ds) acc μ->g μ/\bnd d fun ρ=>cw ρ μ fun b μ1=>if b=true then ew ρ μ1 (fun v μ2=>Y v μ2) else N μ1)
  (he:∀ acc μ,Inv [] acc μ->g μ/\Q acc μ):∀ (ds acc:List D) (μ:Mem),Inv ds acc μ->jJ bnd cw ew g ds acc μ Q
 | [],acc,μ,h=>he acc μ h
 | d :: ds,acc,μ,h=>hs d ds acc μ (fun v μ2=>jJ bnd cw ew g ds (acc ++ [v]) μ2 Q) (fun μ1=>jJ bnd cw ew g ds acc μ1 Q) (fun v μ q=>qz Inv hs he ds (acc ++ [v]) μ q) (fun μ q=>qz Inv hs he ds acc μ q) h
theorem nP {α:Type} {bnd:D->(dI->Prop)->Prop} {cw:dI->Mem->(Bool->Mem->Prop)->Prop} {ew:dI->Mem->QD->Prop} {g:Mem->Prop} {Q:List D->Mem->Prop} {μ:Mem} (c:α->D) (p:α->Bool) (f:α->D) (hg:g μ) :
  ∀ (l:List α) (acc:List D),(∀ x∈l,∀ (Y:D->Mem->Prop) (N:Mem->Prop),(if p x=true then Y (f x) μ else N μ)->bnd (c x) fun ρ=>cw ρ μ fun b μ1=>if b=true then ew ρ μ1 (fun v μ2=>Y v μ2) else N μ1) ->
   Q (acc ++ (l.filter p).map f) μ->jJ bnd cw ew g (l.map c) acc μ Q
 | [],acc,_,h=>⟨hg,by simpa using h⟩
 | d :: ds,acc,hs,h=>by
  refine ⟨hg,hs d (by simp) (fun v μ2=>jJ bnd cw ew g (ds.map c) (acc ++ [v]) μ2 Q) (fun μ1=>jJ bnd cw ew g (ds.map c) acc μ1 Q) ?_⟩
  by_cases q:p d=true
  ·rw [if_pos q]
   refine nP c p f hg ds _ (fun e he=>hs e (by simp [he])) ?_
   rw [List.filter_cons_of_pos q] at h
   simpa using h
  ·rw [if_neg q]
   refine nP c p f hg ds _ (fun e he=>hs e (by simp [he])) ?_
   rw [List.filter_cons_of_neg q] at h
   exact h
theorem tQ {α:Type} {bnd:D->(dI->Prop)->Prop} {cw:dI->Mem->(Bool->Mem->Prop)->Prop} {ew:dI->Mem->QD->Prop} {g:Mem->Prop} {Q:List D->Mem->Prop} {μ:Mem} (c:α->D) (f:α->D) (hg:g μ)
  (l:List α) (acc:List D) (hs:∀ x∈l,∀ (Y:D->Mem->Prop) (N:Mem->Prop),Y (f x) μ->bnd (c x) fun ρ=>cw ρ μ fun b μ1=>if b=true then ew ρ μ1 (fun v μ2=>Y v μ2) else N μ1)
  (h:Q (acc ++ l.map f) μ):jJ bnd cw ew g (l.map c) acc μ Q :=
 nP c (fun _=>true) f hg l acc (fun x hx Y N q=>hs x hx Y N (by simpa using q)) (by rw [List.filter_eq_self.mpr (by simp)]; exact h)
theorem xP {α:Type} (g:α->Int):∀ l:List α,iT (l.map fun x=>D.int (g x))=some (l.map g)
 | []=>rfl
 | x :: l=>by simp [iT,xP g l]
theorem uD {lo:Int} {n:Nat} {d:D} (h:d∈aM lo n):∃ i:Int,d = .int i/\lo<=i/\i < lo + n:=by
 simp only [aM,List.mem_map,List.mem_range] at h
 obtain ⟨j,hj,rfl⟩:=h
 exact ⟨_,rfl,by lia,by lia⟩
end DW
end
section
namespace DW
theorem xG:∀ x y:List Nat,iQ x y=true->iQ y x=false
 | [],[],h=>by simp [iQ] at h
 | [],_ :: _,_=>rfl
 | _ :: _,[],h=>by simp [iQ] at h
 | a :: x,b :: y,h=>by
  unfold iQ at h ⊢
  by_cases e:a=b
  ·rw [if_pos e] at h
   rw [if_pos e.symm]
   exact xG x y h
  ·rw [if_neg e] at h
   rw [if_neg (fun z=>e z.symm)]
   simp at h ⊢; lia
theorem uR:∀ x y z:List Nat,iQ y x=false->iQ z y=false->iQ z x=false
 | x,y,[],h,k=>by
  cases x with
  | nil=>rfl
  | cons a x =>
   cases y with
   | nil=>simp [iQ] at h
   | cons b y=>simp [iQ] at k
 | [],y,c :: z,h,k=>by simp [iQ]
 | a :: x,[],c :: z,h,k=>by simp [iQ] at h
 | a :: x,b :: y,c :: z,h,k=>by
  unfold iQ at h k ⊢
  by_cases e:b=a
  ·by_cases f:c=b
   ·rw [if_pos e] at h; rw [if_pos f] at k; rw [if_pos (f.trans e)]
    exact uR x y z h k
   ·rw [if_neg f] at k; subst e; rw [if_neg f]; exact k
  ·rw [if_neg e] at h
   by_cases f:c=b
   ·subst f; rw [if_neg e]; exact h
   ·rw [if_neg f] at k
    simp at h k
    rw [if_neg (by lia)]
    simp; lia
theorem BZ (x y:Itm) (h:Cd x y=true):Cd y x=false:=by
 unfold Cd at h ⊢
 by_cases e:x.1=y.1
 ·rw [if_pos e] at h; rw [if_pos e.symm]; exact xG _ _ h
 ·rw [if_neg e] at h; rw [if_neg (fun z=>e z.symm)]; simp at h ⊢; lia
theorem Jr (x y z:Itm) (h:Cd y x=false) (k:Cd z y=false):Cd z x=false:=by
 unfold Cd at h k ⊢
 by_cases e:y.1=x.1
 ·by_cases f:z.1=y.1
  ·rw [if_pos e] at h; rw [if_pos f] at k; rw [if_pos (f.trans e)]; exact uR _ _ _ h k
  ·rw [if_neg f] at k; rw [<- e,if_neg f]; exact k
 ·rw [if_neg e] at h
  by_cases f:z.1=y.1
  ·rw [f,if_neg e]; exact h
  ·rw [if_neg f] at k
   simp at h k
   rw [if_neg (by lia)]; simp; lia
end DW
end
section
namespace DW
open PySem PySem.Spec PyProof.Rows L2
noncomputable def keyOf:aC->Key
 | .inl i=>.inl i
 | .inr x=>.inr ⟨x.toArray⟩
noncomputable def KL (K:PySem.W.Frag) (a:Addr) (xs:List V):Prop :=
 ∃ (o:Obj) (its:Array Value) (n:Nat),K.lookup a=some o/\o.cls = .type "list"/\o.dict=none/\o.data = .seq its n/\its.size<=sizeLine/\Vals xs its.toList
section
variable (K:PySem.W.Frag) (H:Hp) (θ:List Addr) (L:Addr->Prop)
mutual
noncomputable def Rep:D->V->Prop
 | .non,v=>v = .non
 | .bl b,v=>v = .bl b
 | .int i,v=>v = .int i
 | .str x,v=>v = .str ⟨x.toArray⟩/\x.length<=sizeLine
 | .tup ds,v=>∃ a xs,v = .ref a/\H a=some (.tup xs)/\¬ L a/\aB ds xs
 | .lst ds,v=>∃ a xs,v = .ref a/\H a=some (.lst xs)/\¬ L a/\aB ds xs
 | .ro ds,v=>∃ a xs,v = .ref a/\((∃ o,H a=some (.bK o (.lst xs))/\¬ L a)∨KL K a xs)/\aB ds xs
 | .loc n,v=>∃ a,v = .ref a/\θ[n]? = some a
 | .cH ks ds,v=>∃ a kvs,v = .ref a/\H a=some (.dK kvs)/\¬ L a/\kvs.map (·.1)=ks.map keyOf/\aB ds (kvs.map (·.2))
 | .kZ ks ds,v=>∃ a o kvs,v = .ref a/\H a=some (.bK o (.dK kvs))/\¬ L a/\kvs.map (·.1)=ks.map keyOf/\aB ds (kvs.map (·.2))
noncomputable def aB:List D->List V->Prop
 | [],vs=>vs=[]
 | d :: ds,vs=>∃ v r,vs=v :: r/\Rep d v/\aB ds r
end
end
section
variable {K:PySem.W.Frag} {H H':Hp} {θ θ':List Addr} {L L':Addr->Prop}
mutual
theorem Rep.mono (hp:∀ (n:Nat) (a:Addr),θ[n]? = some a->θ'[n]? = some a) (hk:∀ a o,H a=some o->¬ L a->H' a=some o/\¬ L' a) :
  ∀ (d:D) (v:V),Rep K H θ L d v->Rep K H' θ' L' d v
 | .non,v,h=>by unfold Rep at *; exact h
 | .bl b,v,h=>by unfold Rep at *; exact h
 | .int i,v,h=>by unfold Rep at *; exact h
 | .str x,v,h=>by unfold Rep at *; exact h
 | .tup ds,v,h=>by
  unfold Rep at *
  obtain ⟨a,xs,e,h1,h2,h3⟩:=h
  exact ⟨a,xs,e,(hk a _ h1 h2).1,(hk a _ h1 h2).2,aB.mono hp hk ds xs h3⟩
 | .lst ds,v,h=>by
  unfold Rep at *
  obtain ⟨a,xs,e,h1,h2,h3⟩:=h
  exact ⟨a,xs,e,(hk a _ h1 h2).1,(hk a _ h1 h2).2,aB.mono hp hk ds xs h3⟩
 | .ro ds,v,h=>by
  unfold Rep at *
  obtain ⟨a,xs,e,h1,h3⟩:=h
  refine ⟨a,xs,e,?_,aB.mono hp hk ds xs h3⟩
  rcases h1 with ⟨o,h1,h2⟩ | h1
  ·exact .inl ⟨o,(hk a _ h1 h2).1,(hk a _ h1 h2).2⟩
  ·exact .inr h1
 | .loc n,v,h=>by
  unfold Rep at *
  obtain ⟨a,e,h1⟩:=h
  exact ⟨a,e,hp n a h1⟩
 | .cH ks ds,v,h=>by
  unfold Rep at *
  obtain ⟨a,kvs,e,h1,h2,h3,h4⟩:=h
  exact ⟨a,kvs,e,(hk a _ h1 h2).1,(hk a _ h1 h2).2,h3,aB.mono hp hk ds _ h4⟩
 | .kZ ks ds,v,h=>by
  unfold Rep at *
  obtain ⟨a,o,kvs,e,h1,h2,h3,h4⟩:=h
  exact ⟨a,o,kvs,e,(hk a _ h1 h2).1,(hk a _ h1 h2).2,h3,aB.mono hp hk ds _ h4⟩
theorem aB.mono (hp:∀ (n:Nat) (a:Addr),θ[n]? = some a->θ'[n]? = some a) (hk:∀ a o,H a=some o->¬ L a->H' a=some o/\¬ L' a) :
  ∀ (ds:List D) (vs:List V),aB K H θ L ds vs->aB K H' θ' L' ds vs
 | [],vs,h=>by unfold aB at *; exact h
 | d :: ds,vs,h=>by
  unfold aB at *
  obtain ⟨v,r,e,h1,h2⟩:=h
  exact ⟨v,r,e,Rep.mono hp hk d v h1,aB.mono hp hk ds r h2⟩
end
theorem aB.nil:aB K H θ L [] []:=by unfold aB; rfl
theorem aB.cons {d:D} {ds:List D} {v:V} {vs:List V} (h:Rep K H θ L d v) (r:aB K H θ L ds vs):aB K H θ L (d :: ds) (v :: vs):=by
 unfold aB; exact ⟨v,vs,rfl,h,r⟩
theorem aB.nil_inv {vs:List V} (h:aB K H θ L [] vs):vs=[]:=by unfold aB at h; exact h
theorem aB.cons_inv {d:D} {ds:List D} {vs:List V} (h:aB K H θ L (d :: ds) vs):∃ v r,vs=v :: r/\Rep K H θ L d v/\aB K H θ L ds r:=by
 unfold aB at h; exact h
theorem aB.length:∀ {ds:List D} {vs:List V},aB K H θ L ds vs->ds.length=vs.length
 | [],vs,h=>by rw [h.nil_inv]; rfl
 | d :: ds,vs,h=>by
  obtain ⟨v,r,rfl,_,h2⟩:=h.cons_inv
  simp [h2.length]
theorem aB.get:∀ {ds:List D} {vs:List V} {i:Nat} {d:D},aB K H θ L ds vs->ds[i]? = some d->∃ v,vs[i]? = some v/\Rep K H θ L d v
 | [],_,_,_,_,e=>by simp at e
 | d :: ds,vs,i,d',h,e=>by
  obtain ⟨v,r,rfl,h1,h2⟩:=h.cons_inv
  cases i with
  | zero=>simp at e; subst e; exact ⟨v,rfl,h1⟩
  | succ i =>
   obtain ⟨w,e1,e2⟩:=aB.get (i:=i) h2 (by simpa using e)
   exact ⟨w,by simpa using e1,e2⟩
theorem aB.append:∀ {ds es:List D} {vs ws:List V},aB K H θ L ds vs->aB K H θ L es ws->aB K H θ L (ds ++ es) (vs ++ ws)
 | [],_,_,_,h,k=>by rw [h.nil_inv]; exact k
 | d :: ds,_,_,_,h,k=>by
  obtain ⟨v,r,rfl,h1,h2⟩:=h.cons_inv
  exact aB.cons h1 (h2.append k)
theorem aB.take:∀ {ds:List D} {vs:List V} (n:Nat),aB K H θ L ds vs->aB K H θ L (ds.take n) (vs.take n)
 | _,_,0,_=>by simpa using aB.nil
 | [],_,n + 1,h=>by rw [h.nil_inv]; simpa using aB.nil
 | d :: ds,_,n + 1,h=>by
  obtain ⟨v,r,rfl,h1,h2⟩:=h.cons_inv
  exact aB.cons h1 (h2.take n)
theorem aB.drop:∀ {ds:List D} {vs:List V} (n:Nat),aB K H θ L ds vs->aB K H θ L (ds.drop n) (vs.drop n)
 | _,_,0,h=>h
 | [],_,n + 1,h=>by rw [h.nil_inv]; simpa using aB.nil
 | d :: ds,_,n + 1,h=>by
  obtain ⟨v,r,rfl,h1,h2⟩:=h.cons_inv
  exact h2.drop n
theorem aB.set {d':D} {v':V} (hd:Rep K H θ L d' v'):∀ {ds:List D} {vs:List V} (n:Nat),aB K H θ L ds vs->aB K H θ L (ds.set n d') (vs.set n v')
 | [],_,n,h=>by rw [h.nil_inv]; simpa using aB.nil
 | d :: ds,_,0,h=>by
  obtain ⟨v,r,rfl,h1,h2⟩:=h.cons_inv
  exact aB.cons hd h2
 | d :: ds,_,n + 1,h=>by
  obtain ⟨v,r,rfl,h1,h2⟩:=h.cons_inv
  exact aB.cons h1 (h2.set hd n)
theorem aB.one {d:D} {v:V} (h:Rep K H θ L d v):aB K H θ L [d] [v]:=aB.cons h aB.nil
theorem aB.reverse:∀ {ds:List D} {vs:List V},aB K H θ L ds vs->aB K H θ L ds.reverse vs.reverse
 | [],_,h=>by rw [h.nil_inv]; simpa using aB.nil
 | d :: ds,_,h=>by
  obtain ⟨v,r,rfl,h1,h2⟩:=h.cons_inv
  rw [List.reverse_cons,List.reverse_cons]
  exact h2.reverse.append (aB.one h1)
end
noncomputable def mR (θ:List Addr) (μ:Mem) (a:Addr):Prop:=∃ (n:Nat) (c:Cell),θ[n]? = some a/\μ[n]? = some c/\c≠.gone
noncomputable abbrev Rp (K:PySem.W.Frag) (H:Hp) (θ:List Addr) (μ:Mem):D->V->Prop:=Rep K H θ (mR θ μ)
noncomputable abbrev gH (K:PySem.W.Frag) (H:Hp) (θ:List Addr) (μ:Mem):List D->List V->Prop:=aB K H θ (mR θ μ)
noncomputable def ExcAt (x C:Addr) (h:Heap):Prop:=∃ o,h.get? x=some o/\o.cls = .ref C
noncomputable def DcO (a:Addr) (fs:List (Str×V)):HO:=.ext fun h=>∃ mA,h.Ns1 a mA/\(∀ f,qp (fs.lookup f) (mA f))/\PySem.Within mA (fs.map (·.1))
noncomputable def PN (K:PySem.W.Frag) (H:Hp) (θ:List Addr) (μ:Mem) (ks:List String) (ds:List D) (dx:Option Addr):Prop :=
 (ks=[]/\dx=none)∨(ks≠[]/\∃ x fs,dx=some x/\H x=some (DcO x fs)/\¬ mR θ μ x/\fs.map (·.1)=ks.map (fun k=>Str.ofString k)/\gH K H θ μ ds (fs.map (·.2)))
noncomputable def N6:Str:="shortest"
noncomputable def ZD:Str:="shortest" ++ ".<locals>." ++ "<lambda>"
noncomputable def gJ (K:PySem.W.Frag) (H:Hp) (θ:List Addr) (μ:Mem) (a:Addr):Cell->Prop
 | .lst ds=>∃ xs,H a=some (.lst xs)/\gH K H θ μ ds xs
 | .ins c fs=>∃ C dx fs',PySem.W.nsIn K mainGlobals (Str.ofString c)=some (some (.ref C))/\H a=some (.ins C dx fs')/\fs'.map (·.1)=fs.map (fun p=>Str.ofString p.1)/\gH K H θ μ (fs.map (·.2)) (fs'.map (·.2))
 | .cH ks ds=>∃ kvs,H a=some (.dK kvs)/\kvs.map (·.1)=ks.map keyOf/\gH K H θ μ ds (kvs.map (·.2))
 | .bW ks ds=>∃ kvs,H a=some (.dT kvs)/\kvs.map (·.1)=ks.map (·.map keyOf)/\gH K H θ μ ds (kvs.map (·.2))
 | .jG o ks ds=>∃ kvs,H a=some (.bK o (.dT kvs))/\kvs.map (·.1)=ks.map (·.map keyOf)/\gH K H θ μ ds (kvs.map (·.2))
 | .fdi o ks ds=>∃ kvs,H a=some (.bK o (.dK kvs))/\kvs.map (·.1)=ks.map keyOf/\gH K H θ μ ds (kvs.map (·.2))
 | .exc c ks ds=>∃ C o u,PySem.W.nsIn K mainGlobals (Str.ofString c)=some (some (.ref C))/\H a=some (.bK o u)/\o.cls = .ref C/\PySem.W.notCls o=true/\PN K H θ μ ks ds o.dict
 | .gone=>True
 | .Em=>∃ (tc:Addr) (t:Tab),PySem.W.tabIn K N6=some (tc,a)/\H a=some (.Em t)/\t.q=ZD
structure cF (K:PySem.W.Frag) (H:Hp) (θ:List Addr) (μ:Mem):Prop where
 len:θ.length=μ.length
 inj:∀ (m n:Nat) (a:Addr),θ[m]? = some a->θ[n]? = some a->m=n
 bnd:∀ (n:Nat) (a:Addr),θ[n]? = some a->H a≠none
 cell:∀ (n:Nat) (c:Cell) (a:Addr),μ[n]? = some c->θ[n]? = some a->gJ K H θ μ a c
structure au (H:Hp) (θ:List Addr) (μ:Mem) (H':Hp) (θ':List Addr) (μ':Mem):Prop where
 pre:∀ (n:Nat) (a:Addr),θ[n]? = some a->θ'[n]? = some a
 keep:∀ a o,H a=some o->¬ mR θ μ a->H' a=some o/\¬ mR θ' μ' a
section
variable {K:PySem.W.Frag} {H H' Gu:Hp} {θ θ' Kg:List Addr} {μ μ' Kf:Mem} {p a:Addr} {n:Nat} {ds:List D} {xs:List V} {d:D} {v:V}
theorem au.refl:au H θ μ H θ μ:=⟨fun _ _ h=>h,fun _ _ h k=>⟨h,k⟩⟩
theorem au.trans (g:au H θ μ H' θ' μ') (g':au H' θ' μ' Gu Kg Kf):au H θ μ Gu Kg Kf :=
 ⟨fun n a h=>g'.pre n a (g.pre n a h),fun a o h k=>let ⟨x,y⟩:=g.keep a o h k; g'.keep a o x y⟩
theorem au.rep (g:au H θ μ H' θ' μ') (h:Rp K H θ μ d v):Rp K H' θ' μ' d v:=Rep.mono g.pre g.keep d v h
theorem au.reps (g:au H θ μ H' θ' μ') (h:gH K H θ μ ds xs):gH K H' θ' μ' ds xs:=aB.mono g.pre g.keep ds xs h
theorem cF.Nf (w:cF K H θ μ) (hp:H p=none) (n:Nat):θ[n]?≠some p:=fun e=>w.bnd n p e hp
theorem cF.zc (w:cF K H θ μ) (hp:H p=none):¬ mR θ μ p:=fun ⟨n,_,e,_⟩=>w.Nf hp n e
theorem au.ext (e:∀ a o,H a=some o->H' a=some o):au H θ μ H' θ μ:=⟨fun _ _ h=>h,fun a o h k=>⟨e a o h,k⟩⟩
theorem PN.mono {ks:List String} {dx:Option Addr} (kp:au H θ μ H' θ' μ') (h:PN K H θ μ ks ds dx):PN K H' θ' μ' ks ds dx:=by
 rcases h with h | ⟨h0,x,fs,h1,h2,h3,h4,h5⟩
 ·exact .inl h
 ·exact .inr ⟨h0,x,fs,h1,(kp.keep x _ h2 h3).1,(kp.keep x _ h2 h3).2,h4,kp.reps h5⟩
theorem gJ.mono {c:Cell} (kp:au H θ μ H' θ' μ') (e:∀ o,H a=some o->H' a=some o) (h:gJ K H θ μ a c):gJ K H' θ' μ' a c:=by
 cases c with
 | lst ds=>obtain ⟨xs,h1,h2⟩:=h; exact ⟨xs,e _ h1,kp.reps h2⟩
 | ins c fs=>obtain ⟨C,dx,fs',h0,h1,h2,h3⟩:=h; exact ⟨C,dx,fs',h0,e _ h1,h2,kp.reps h3⟩
 | cH ks ds=>obtain ⟨kvs,h1,h2,h3⟩:=h; exact ⟨kvs,e _ h1,h2,kp.reps h3⟩
 | bW ks ds=>obtain ⟨kvs,h1,h2,h3⟩:=h; exact ⟨kvs,e _ h1,h2,kp.reps h3⟩
 | jG o ks ds=>obtain ⟨kvs,h1,h2,h3⟩:=h; exact ⟨kvs,e _ h1,h2,kp.reps h3⟩
 | fdi o ks ds=>obtain ⟨kvs,h1,h2,h3⟩:=h; exact ⟨kvs,e _ h1,h2,kp.reps h3⟩
 | exc c ks ds=>obtain ⟨C,o,u,h1,h2,h3,h5,h4⟩:=h; exact ⟨C,o,u,h1,e _ h2,h3,h5,h4.mono kp⟩
 | gone=>trivial
 | Em=>obtain ⟨tc,t,h1,h2,h3⟩:=h; exact ⟨tc,t,h1,e _ h2,h3⟩
theorem cF.ext (w:cF K H θ μ) (e:∀ a o,H a=some o->H' a=some o):cF K H' θ μ where
 len:=w.len
 inj:=w.inj
 bnd:=fun n a h k=>by
  cases q:H a with
  | none=>exact w.bnd n a h q
  | some o=>rw [e a o q] at k; cases k
 cell:=fun n c a h k=>(w.cell n c a h k).mono (au.ext e) (e a)
theorem eU {o:HO} (hp:H p=none):∀ a u,H a=some u->(upd H p o) a=some u:=fun a u h=>by
 rw [aq (bh h hp)]; exact h
theorem CG {α:Type} {l:List α} {x y:α} {n:Nat} (h:l[n]? = some y):(l ++ [x])[n]? = some y:=by
 have hl:n < l.length:=(List.getElem?_eq_some_iff.mp h).1
 rw [List.getElem?_append_left hl]; exact h
theorem fH {α:Type} {l:List α} {x y:α} {n:Nat} (h:(l ++ [x])[n]? = some y):l[n]? = some y∨(n=l.length/\x=y):=by
 by_cases hn:n < l.length
 ·rw [List.getElem?_append_left hn] at h; exact .inl h
 ·rw [List.getElem?_append_right (by lia)] at h
  have:n - l.length=0:=by
   cases e:n - l.length with
   | zero=>rfl
   | succ k=>rw [e] at h; simp at h
  rw [this] at h
  simp at h
  exact .inr ⟨by lia,h⟩
theorem au.new {c:Cell} {o:HO} (w:cF K H θ μ) (hp:H p=none):au H θ μ (upd H p o) (θ ++ [p]) (μ ++ [c]) where
 pre:=fun n a h=>CG h
 keep:=fun a u h k=>by
  refine ⟨eU hp a u h,?_⟩
  rintro ⟨n,c',e1,e2,e3⟩
  rcases fH e1 with e1 | ⟨e1,rfl⟩
  ·rcases fH e2 with e2 | ⟨e2,_⟩
   ·exact k ⟨n,c',e1,e2,e3⟩
   ·have:=(List.getElem?_eq_some_iff.mp e1).1
    have:=w.len
    lia
  ·rw [hp] at h; cases h
theorem cF.new {c:Cell} {o:HO} (w:cF K H θ μ) (hp:H p=none) (hc:gJ K (upd H p o) (θ ++ [p]) (μ ++ [c]) p c):cF K (upd H p o) (θ ++ [p]) (μ ++ [c]) where
 len:=by simp [w.len]
 inj:=fun m n a h k=>by
  rcases fH h with h1 | ⟨h1,rfl⟩
  ·rcases fH k with k1 | ⟨k1,rfl⟩
   ·exact w.inj m n a h1 k1
   ·exact absurd h1 (w.Nf hp m)
  ·rcases fH k with k1 | ⟨k1,_⟩
   ·exact absurd k1 (w.Nf hp n)
   ·rw [h1,k1]
 bnd:=fun n a h=>by
  rcases fH h with h | ⟨h,rfl⟩
  ·intro k
   cases q:H a with
   | none=>exact w.bnd n a h q
   | some u=>rw [eU hp a u q] at k; cases k
  ·rw [aA]; simp
 cell:=fun n c' a h k=>by
  rcases fH k with k | ⟨k,rfl⟩
  ·rcases fH h with h | ⟨h,rfl⟩
   ·exact (w.cell n c' a h k).mono (au.new w hp) (eU hp a)
   ·have:=(List.getElem?_eq_some_iff.mp k).1
    have:=w.len
    lia
  ·rcases fH h with h | ⟨h,rfl⟩
   ·have:=(List.getElem?_eq_some_iff.mp h).1
    have:=w.len
    lia
   ·exact hc
theorem NK {c c':Cell} (hn:μ[n]? = some c) (h1:c≠.gone) (h2:c'≠.gone):mR θ (μ.set n c') a<->mR θ μ a:=by
 constructor
 ·rintro ⟨m,e,k1,k2,k3⟩
  by_cases q:m=n
  ·subst q; exact ⟨m,c,k1,hn,h1⟩
  ·rw [List.getElem?_set_ne (Ne.symm q)] at k2; exact ⟨m,e,k1,k2,k3⟩
 ·rintro ⟨m,e,k1,k2,k3⟩
  by_cases q:m=n
  ·subst q
   refine ⟨m,c',k1,?_,h2⟩
   rw [List.getElem?_set_self (List.getElem?_eq_some_iff.mp hn).1]
  ·exact ⟨m,e,k1,by rw [List.getElem?_set_ne (Ne.symm q)]; exact k2,k3⟩
theorem au.write {c c':Cell} {o:HO} (hn:μ[n]? = some c) (ha:θ[n]? = some a) (h1:c≠.gone) (h2:c'≠.gone):au H θ μ (upd H a o) θ (μ.set n c') where
 pre:=fun _ _ h=>h
 keep:=fun b u h k=>by
  have:b≠a:=by rintro rfl; exact k ⟨n,c,ha,hn,h1⟩
  exact ⟨by rw [aq this]; exact h,fun z=>k ((NK hn h1 h2).mp z)⟩
theorem cF.write {c c':Cell} {o:HO} (w:cF K H θ μ) (hn:μ[n]? = some c) (ha:θ[n]? = some a) (h1:c≠.gone) (h2:c'≠.gone) (hc:gJ K (upd H a o) θ (μ.set n c') a c'):cF K (upd H a o) θ (μ.set n c') where
 len:=by simp [w.len]
 inj:=w.inj
 bnd:=fun m b h k=>by
  unfold upd at k
  split at k
  ·cases k
  ·exact w.bnd m b h k
 cell:=fun m c1 b h k=>by
  by_cases q:m=n
  ·subst q
   rw [List.getElem?_set_self (List.getElem?_eq_some_iff.mp hn).1] at h
   cases h
   rw [ha] at k; cases k
   exact hc
  ·rw [List.getElem?_set_ne (Ne.symm q)] at h
   have hb:b≠a:=fun z=>q (w.inj m n b k (by rw [z]; exact ha))
   exact (w.cell m c1 b h k).mono (au.write hn ha h1 h2) fun u e=>by rw [aq hb]; exact e
theorem au.bK:au H θ μ H θ (μ.set n .gone) where
 pre:=fun _ _ h=>h
 keep:=fun b u h k=>⟨h,fun ⟨m,c,k1,k2,k3⟩=>by
  by_cases q:m=n
  ·subst q
   by_cases hl:m < μ.length
   ·rw [List.getElem?_set_self hl] at k2; cases k2; exact k3 rfl
   ·rw [List.set_eq_of_length_le (by lia)] at k2; exact k ⟨m,c,k1,k2,k3⟩
  ·rw [List.getElem?_set_ne (Ne.symm q)] at k2; exact k ⟨m,c,k1,k2,k3⟩⟩
theorem cF.bK (w:cF K H θ μ):cF K H θ (μ.set n .gone) where
 len:=by simp [w.len]
 inj:=w.inj
 bnd:=w.bnd
 cell:=fun m c1 b h k=>by
  by_cases q:m=n
  ·subst q
   by_cases hl:m < μ.length
   ·rw [List.getElem?_set_self hl] at h; cases h; trivial
   ·rw [List.set_eq_of_length_le (by lia)] at h ⊢; exact w.cell m c1 b h k
  ·rw [List.getElem?_set_ne (Ne.symm q)] at h
   exact (w.cell m c1 b h k).mono au.bK fun _ e=>e
theorem pY (w:cF K H θ μ) (ha:θ[n]? = some a):¬ mR θ (μ.set n .gone) a:=by
 rintro ⟨m,c,k1,k2,k3⟩
 have:=w.inj m n a k1 ha
 subst this
 by_cases hl:m < μ.length
 ·rw [List.getElem?_set_self hl] at k2; cases k2; exact k3 rfl
 ·rw [List.getElem?_eq_none (by simp; lia)] at k2; cases k2
theorem cF.list (w:cF K H θ μ) (hn:μ[n]? = some (.lst ds)) (ha:θ[n]? = some a):∃ xs,H a=some (.lst xs)/\gH K H θ μ ds xs:=w.cell n _ a hn ha
end
structure qm (K:PySem.W.Frag) (σ:L2.St) (H:Hp) (ρ:dI) (θ:List Addr) (μ:Mem):Prop where
 lJ:cF K H θ μ
 len:ρ.length=σ.length
 val:∀ (i:Nat) (d:D),ρ[i]? = some (some d)->∃ v,σ[i]? = some (some v)/\Rp K H θ μ d v
noncomputable def Fin (K:PySem.W.Frag) (H:Hp) (θ:List Addr) (μ:Mem) (Qd:QD) (Q:VK):Prop :=
 ∀ (d:D) (v:V) (H':Hp) (θ':List Addr) (μ':Mem),cF K H' θ' μ'->au H θ μ H' θ' μ'->Rp K H' θ' μ' d v->Qd d μ'->Q v H'
noncomputable abbrev WE:=dI->Mem->QD->Prop
noncomputable def LE (K:PySem.W.Frag) (w:WE):TE:=fun σ H Q=>∃ ρ θ μ Qd,qm K σ H ρ θ μ/\w ρ μ Qd/\Fin K H θ μ Qd Q
noncomputable abbrev WT:=dI->Mem->(Bool->Mem->Prop)->Prop
noncomputable def LT (K:PySem.W.Frag) (w:WT):TT:=fun σ H Q=>∃ ρ θ μ Qd,qm K σ H ρ θ μ/\w ρ μ Qd /\
 ∀ (b:Bool) (H':Hp) (θ':List Addr) (μ':Mem),cF K H' θ' μ'->au H θ μ H' θ' μ'->Qd b μ'->Q b H'
noncomputable abbrev WA:=dI->Mem->(List D->Mem->Prop)->Prop
noncomputable def LA (K:PySem.W.Frag) (w:WA):TA:=fun σ H Q=>∃ ρ θ μ Qd,qm K σ H ρ θ μ/\w ρ μ Qd /\
 ∀ (ds:List D) (vs:List V) (H':Hp) (θ':List Addr) (μ':Mem),cF K H' θ' μ'->au H θ μ H' θ' μ'->gH K H' θ' μ' ds vs->Qd ds μ'->Q vs H'
noncomputable abbrev WS:=jr->dI->Mem->Prop
noncomputable def Pz (K:PySem.W.Frag) (E:XK) (H:Hp) (θ:List Addr) (μ:Mem) (c:String) (ks:List String) (ds:List D):Prop:=∃ C,PySem.W.nsIn K mainGlobals (Str.ofString c)=some (some (.ref C))/\∀ dx,PN K H θ μ ks ds dx->E (.ref C) dx H
structure J9 (K:PySem.W.Frag) (EX:L2.St->XK) (H:Hp) (θ:List Addr) (μ:Mem) (Z:jr) (D:Ends):Prop where
 nx:∀ σ' H' ρ' θ' μ',qm K σ' H' ρ' θ' μ'->au H θ μ H' θ' μ'->Z.nx ρ' μ'->D.nx σ' H'
 rt:Fin K H θ μ Z.rt D.rt
 bk:∀ σ' H' ρ' θ' μ',qm K σ' H' ρ' θ' μ'->au H θ μ H' θ' μ'->Z.bk ρ' μ'->D.bk σ' H'
 ct:∀ σ' H' ρ' θ' μ',qm K σ' H' ρ' θ' μ'->au H θ μ H' θ' μ'->Z.ct ρ' μ'->D.ct σ' H'
 xc:∀ σ' H' ρ' θ' μ' c ks ds,qm K σ' H' ρ' θ' μ'->au H θ μ H' θ' μ'->Z.xc ρ' c ks ds μ'->Pz K (EX σ') H' θ' μ' c ks ds
noncomputable def LS (K:PySem.W.Frag) (EX:L2.St->XK) (w:WS):TS:=fun D σ H=>∃ ρ θ μ Z,qm K σ H ρ θ μ/\w Z ρ μ/\J9 K EX H θ μ Z D
section
variable {K:PySem.W.Frag} {H H' Gu:Hp} {θ θ' Kg:List Addr} {μ μ' Kf:Mem} {σ:L2.St} {ρ:dI} {i:Nat} {d:D} {v:V} {Qd:QD} {Q:VK}
theorem qm.grow (s:qm K σ H ρ θ μ) (w:cF K H' θ' μ') (g:au H θ μ H' θ' μ'):qm K σ H' ρ θ' μ' :=
 ⟨w,s.len,fun i d h=>let ⟨v,e,r⟩:=s.val i d h; ⟨v,e,g.rep r⟩⟩
theorem qm.set (s:qm K σ H ρ θ μ) (r:Rp K H θ μ d v) (i:Nat):qm K (σ.set i (some v)) H (ρ.set i (some d)) θ μ :=
 ⟨s.lJ,by simp [s.len],fun j e h=>by
  by_cases q:j=i
  ·subst q
   by_cases hl:j < ρ.length
   ·rw [List.getElem?_set_self hl] at h
    cases h
    exact ⟨v,by rw [List.getElem?_set_self (by rw [<- s.len]; exact hl)],r⟩
   ·rw [List.getElem?_eq_none (by simp; lia)] at h; cases h
  ·rw [List.getElem?_set_ne (Ne.symm q)] at h ⊢
   exact s.val j e h⟩
theorem Fin.mono (f:Fin K H θ μ Qd Q) (g:au H θ μ H' θ' μ'):Fin K H' θ' μ' Qd Q:=fun d v Gu Kg Kf w g' r q=>f d v Gu Kg Kf w (g.trans g') r q
theorem Fin.at (f:Fin K H θ μ Qd Q) (w:cF K H θ μ) (r:Rp K H θ μ d v) (q:Qd d μ):Q v H:=f d v H θ μ w au.refl r q
theorem J9.mono {EX:L2.St->XK} {Z:jr} {D:Ends} (f:J9 K EX H θ μ Z D) (g:au H θ μ H' θ' μ'):J9 K EX H' θ' μ' Z D :=
 ⟨fun σ' H' ρ' θ' μ' s g' z=>f.nx σ' H' ρ' θ' μ' s (g.trans g') z,f.rt.mono g,fun σ' H' ρ' θ' μ' s g' z=>f.bk σ' H' ρ' θ' μ' s (g.trans g') z,fun σ' H' ρ' θ' μ' s g' z=>f.ct σ' H' ρ' θ' μ' s (g.trans g') z,fun σ' H' ρ' θ' μ' c ks ds s g' z=>f.xc σ' H' ρ' θ' μ' c ks ds s (g.trans g') z⟩
end
end DW
end
section
namespace DW
open PySem PySem.Spec PyProof.Rows L2
section
variable {X:Cx}
theorem PE.wk {e:Expr} {t t':TE} (h:PE X e t) (m:∀ σ H Q,t' σ H Q->t σ H Q):PE X e t':=fun pins s σ H Q I hw=>h pins s σ H Q I (m σ H Q hw)
theorem PT.wk {e:Expr} {t t':TT} (h:PT X e t) (m:∀ σ H Q,t' σ H Q->t σ H Q):PT X e t':=fun pins s σ H Q I hw=>h pins s σ H Q I (m σ H Q hw)
theorem PW.wk {e:Expr} {t t':TT} (h:PW X e t) (m:∀ σ H Q,t' σ H Q->t σ H Q):PW X e t':=fun wh pins s σ H Q I hw=>h wh pins s σ H Q I (m σ H Q hw)
theorem PA.wk {es:List Expr} {t t':TA} (h:PA X es t) (m:∀ σ H Q,t' σ H Q->t σ H Q):PA X es t':=fun pos pins s σ H Q I hw=>h pos pins s σ H Q I (m σ H Q hw)
theorem PS.wk {st:Stmt} {t t':TS} (h:PS X st t) (m:∀ D σ H,t' D σ H->t D σ H):PS X st t':=fun pins s σ H D I hw=>h pins s σ H D I (m D σ H hw)
theorem vV.wk {st:List Stmt} {t t':TS} (h:vV X st t) (m:∀ D σ H,t' D σ H->t D σ H):vV X st t':=fun pins s σ H D I hw=>h pins s σ H D I (m D σ H hw)
end
theorem ou:lim=sizeLine:=by rw [sizeLine_eq]; rfl
noncomputable def uT (K:PySem.W.Frag) (w:D->D->Mem->QD->Prop):R2:=fun x y H Q=>∃ d e θ μ Qd,cF K H θ μ/\Rp K H θ μ d x/\Rp K H θ μ e y/\w d e μ Qd/\Fin K H θ μ Qd Q
noncomputable def qQ (K:PySem.W.Frag) (w:List D->Mem->QD->Prop):List V->Hp->VK->Prop:=fun vs H Q=>∃ ds θ μ Qd,cF K H θ μ/\gH K H θ μ ds vs/\w ds μ Qd/\Fin K H θ μ Qd Q
noncomputable def R4 (K:PySem.W.Frag) (w:D->List D->Mem->QD->Prop):V->List V->Hp->VK->Prop:=fun x vs H Q=>∃ d ds θ μ Qd,cF K H θ μ/\Rp K H θ μ d x/\gH K H θ μ ds vs/\w d ds μ Qd/\Fin K H θ μ Qd Q
section
variable {K:PySem.W.Frag} {H H':Hp} {θ θ':List Addr} {μ μ':Mem} {σ:L2.St} {ρ:dI} {Qd:QD} {Q:VK} {ds:List D} {xs:List V} {p a:Addr}
theorem ur:Rp K H θ μ .non .non:=by unfold Rep; rfl
theorem cZ {b:Bool}:Rp K H θ μ (.bl b) (.bl b):=by unfold Rep; rfl
theorem aY {i:Int}:Rp K H θ μ (.int i) (.int i):=by unfold Rep; rfl
theorem nY {x:List Nat} (h:x.length<=sizeLine):Rp K H θ μ (.str x) (.str ⟨x.toArray⟩):=by unfold Rep; exact ⟨rfl,h⟩
theorem m7 {v:V} (h:Rp K H θ μ .non v):v = .non:=by unfold Rep at h; exact h
theorem dh {b:Bool} {v:V} (h:Rp K H θ μ (.bl b) v):v = .bl b:=by unfold Rep at h; exact h
theorem aF {i:Int} {v:V} (h:Rp K H θ μ (.int i) v):v = .int i:=by unfold Rep at h; exact h
theorem bG {x:List Nat} {v:V} (h:Rp K H θ μ (.str x) v):v = .str ⟨x.toArray⟩/\x.length<=sizeLine:=by unfold Rep at h; exact h
theorem bR {v:V} (h:Rp K H θ μ (.tup ds) v):∃ a xs,v = .ref a/\H a=some (.tup xs)/\¬ mR θ μ a/\gH K H θ μ ds xs:=by unfold Rep at h; exact h
theorem fG {v:V} (h:Rp K H θ μ (.lst ds) v):∃ a xs,v = .ref a/\H a=some (.lst xs)/\¬ mR θ μ a/\gH K H θ μ ds xs:=by unfold Rep at h; exact h
theorem zJ {v:V} (h:Rp K H θ μ (.ro ds) v):∃ a xs,v = .ref a/\((∃ o,H a=some (.bK o (.lst xs))/\¬ mR θ μ a)∨KL K a xs)/\gH K H θ μ ds xs:=by unfold Rep at h; exact h
theorem aO {n:Nat} {v:V} (h:Rp K H θ μ (.loc n) v):∃ a,v = .ref a/\θ[n]? = some a:=by unfold Rep at h; exact h
theorem zK {ks:List aC} {v:V} (h:Rp K H θ μ (.cH ks ds) v):∃ a kvs,v = .ref a/\H a=some (.dK kvs)/\¬ mR θ μ a/\kvs.map (·.1)=ks.map keyOf/\gH K H θ μ ds (kvs.map (·.2)):=by unfold Rep at h; exact h
theorem tB {ks:List aC} {v:V} (h:Rp K H θ μ (.kZ ks ds) v):∃ a o kvs,v = .ref a/\H a=some (.bK o (.dK kvs))/\¬ mR θ μ a/\kvs.map (·.1)=ks.map keyOf/\gH K H θ μ ds (kvs.map (·.2)):=by unfold Rep at h; exact h
theorem Ad (h:(∃ o,H a=some (.bK o (.lst xs))/\¬ mR θ μ a)∨KL K a xs):lg K H a xs:=by
 rcases h with ⟨o,h,_⟩ | h
 ·exact .inl (.inr ⟨o,h⟩)
 ·exact .inr h
theorem gk {d:D} {v:V} (wk:cF K H θ μ) (r:Rp K H θ μ d v) (h:aG μ d=some ds):∃ a xs,v = .ref a/\(lg K H a xs∨qu K H a xs)/\gH K H θ μ ds xs:=by
 cases d with
 | lst es=>simp only [aG,Option.some.injEq] at h; subst h; obtain ⟨a,xs,e,h1,_,h3⟩:=fG r; exact ⟨a,xs,e,.inl (.of h1),h3⟩
 | tup es=>simp only [aG,Option.some.injEq] at h; subst h; obtain ⟨a,xs,e,h1,_,h3⟩:=bR r; exact ⟨a,xs,e,.inr (.of h1),h3⟩
 | ro es=>simp only [aG,Option.some.injEq] at h; subst h; obtain ⟨a,xs,e,h1,h3⟩:=zJ r; exact ⟨a,xs,e,.inl (Ad h1),h3⟩
 | loc n =>
  obtain ⟨a,e,h1⟩:=aO r
  simp only [aG] at h
  split at h
  ·rename_i es hn
   simp only [Option.some.injEq] at h; subst h
   obtain ⟨xs,h2,h3⟩:=wk.list hn h1
   exact ⟨a,xs,e,.inl (.of h2),h3⟩
  ·cases h
 | _=>simp [aG] at h
theorem zj (wk:cF K H θ μ) (f:Fin K H θ μ Qd Q) (r:gH K H θ μ ds xs) (h:Qd (.tup ds) μ) (hp:H p=none):Q (.ref p) (upd H p (.tup xs)):=by
 refine f (.tup ds) (.ref p) _ θ μ (wk.ext (eU hp)) (au.ext (eU hp)) ?_ h
 unfold Rep
 exact ⟨p,xs,rfl,aA,wk.zc hp,(au.ext (eU hp)).reps r⟩
theorem zm (wk:cF K H θ μ) (f:Fin K H θ μ Qd Q) (r:gH K H θ μ ds xs) (h:Qd (.lst ds) μ) (hp:H p=none):Q (.ref p) (upd H p (.lst xs)):=by
 refine f (.lst ds) (.ref p) _ θ μ (wk.ext (eU hp)) (au.ext (eU hp)) ?_ h
 unfold Rep
 exact ⟨p,xs,rfl,aA,wk.zc hp,(au.ext (eU hp)).reps r⟩
theorem Nh (wk:cF K H θ μ) (f:Fin K H θ μ Qd Q) (r:gH K H θ μ ds xs) (h:Qd (.loc μ.length) (μ ++ [.lst ds])) (hp:H p=none):Q (.ref p) (upd H p (.lst xs)):=by
 have g:au H θ μ (upd H p (.lst xs)) (θ ++ [p]) (μ ++ [.lst ds]):=au.new wk hp
 refine f (.loc μ.length) (.ref p) _ (θ ++ [p]) (μ ++ [.lst ds]) (wk.new (c:=.lst ds) hp (show gJ K _ _ _ p (.lst ds) from ⟨xs,aA,g.reps r⟩)) g ?_ h
 unfold Rep
 exact ⟨p,rfl,by rw [<- wk.len]; simp⟩
theorem sV {m:Bool} (wk:cF K H θ μ) (f:Fin K H θ μ Qd Q) (r:gH K H θ μ ds xs) (h:newL m ds μ Qd) (hp:H p=none):Q (.ref p) (upd H p (.lst xs)):=by
 cases m with
 | true=>exact Nh wk f r h hp
 | false=>exact zm wk f r h hp
end
section
variable {K:PySem.W.Frag} {σ:L2.St} {H:Hp} {Q:VK} {wa wb wc:WE}
theorem mj {w:D->D->Mem->QD->Prop} (h:LE K (fun ρ μ Q=>wa ρ μ fun x μ1=>wb ρ μ1 fun y μ2=>w x y μ2 Q) σ H Q):YJ (uT K w) (LE K wa) (LE K wb) σ H Q:=by
 obtain ⟨ρ,θ,μ,Qd,s,h,f⟩:=h
 refine ⟨ρ,θ,μ,_,s,h,fun x v H1 θ1 μ1 w1 g1 r1 h1=>⟨ρ,θ1,μ1,_,s.grow w1 g1,h1,fun y v2 H2 θ2 μ2 w2 g2 r2 h2=>?_⟩⟩
 exact ⟨x,y,θ2,μ2,Qd,w2,g2.rep r1,r2,h2,f.mono (g1.trans g2)⟩
theorem Sd {w:List D->Mem->QD->Prop} {ws:WA} (h:LE K (fun ρ μ Q=>ws ρ μ fun ds μ1=>w ds μ1 Q) σ H Q):LA K ws σ H (fun vs H1=>qQ K w vs H1 Q):=by
 obtain ⟨ρ,θ,μ,Qd,s,h,f⟩:=h
 exact ⟨ρ,θ,μ,_,s,h,fun ds vs H1 θ1 μ1 w1 g1 r1 h1=>⟨ds,θ1,μ1,Qd,w1,r1,h1,f.mono g1⟩⟩
theorem Sg {ws:WA} {Q:List V->Hp->Prop} (h:LA K (fun ρ μ Q=>wa ρ μ fun d μ1=>ws ρ μ1 fun ds μ2=>Q (d :: ds) μ2) σ H Q):Ul (LE K wa) (LA K ws) σ H Q:=by
 obtain ⟨ρ,θ,μ,Qd,s,h,f⟩:=h
 refine ⟨ρ,θ,μ,_,s,h,fun x v H1 θ1 μ1 w1 g1 r1 h1=>⟨ρ,θ1,μ1,_,s.grow w1 g1,h1,fun ds vs H2 θ2 μ2 w2 g2 r2 h2=>?_⟩⟩
 exact f (x :: ds) (v :: vs) H2 θ2 μ2 w2 (g1.trans g2) (.cons (g2.rep r1) r2) h2
end
section
variable {X:Cx}
theorem G4:PA X [] (LA X.K (fun _ μ Q=>Q [] μ)):=PA.wk uH fun σ H Q h=>by
 obtain ⟨ρ,θ,μ,Qd,s,h,f⟩:=h
 exact f [] [] H θ μ s.lJ au.refl aB.nil h
theorem uI {e:Expr} {es:List Expr} {wa:WE} {ws:WA} (h1:PE X e (LE X.K wa)) (h2:PA X es (LA X.K ws)) (hs:starEach (e :: es) X.env=(false,eval e X.env) :: starEach es X.env) :
  PA X (e :: es) (LA X.K (fun ρ μ Q=>wa ρ μ fun d μ1=>ws ρ μ1 fun ds μ2=>Q (d :: ds) μ2)):=PA.wk (gU h1 h2 hs) fun σ H Q h=>Sg h
theorem Rk {i:Nat} {x:Str} {pos:Pos} (hN:X.N[i]? = some x) (hv:Vis X.env.scope x) (hd:(x == ("__debug__" : Str))=false) (hcd:(x == ("__classdict__" : Str))=false) :
  PE X (.Name x pos) (LE X.K (fun ρ μ Q=>match ρ[i]? with | some (some d)=>Q d μ | _=>False)):=PE.wk (Wn hN hv hd hcd) fun σ H Q h=>by
 obtain ⟨ρ,θ,μ,Qd,s,h,f⟩:=h
 split at h
 ·rename_i d e
  obtain ⟨v,e1,r⟩:=s.val i d e
  exact ⟨v,e1,f.at s.lJ r h⟩
 ·exact h.elim
theorem lZ {v:V} {d:D} (r:∀ H θ μ,Rp X.K H θ μ d v) {σ:L2.St} {H:Hp} {Q:VK} (h:LE X.K (fun _ μ Q=>Q d μ) σ H Q):tC v σ H Q:=by
 obtain ⟨ρ,θ,μ,Qd,s,h,f⟩:=h
 exact f.at s.lJ (r H θ μ) h
theorem M7:lG X (binaryOp .FloorDiv) (rI (fun _ j=>vN j) fun i j=>.int (i / j)):=opI fun i j _ _ _ _ _ hc q=>by
 have h1:(0:Int) < j:=hc.1
 have h2:j < 2 ^ 500:=hc.2
 refine floordiv_int (by lia) ?_ (.inl (PyProof.noPylong_of_log2 ?_))
 ·rw [Int.fdiv_eq_ediv_of_nonneg i (by lia)]; exact q
 ·have h3:j.natAbs < 2 ^ 500:=by lia
  have h4:j.natAbs≠0:=by lia
  have:=(Nat.log2_lt h4).mpr h3
  lia
theorem Ld {prog:Program} {w:World} {A:Around} {E:Value->Shared->Prop} {s:Shared} {t b:Addr} {vs ws:List Value} {Q:Value->Shared->Prop} (ht:IsTup s.heap t vs.toArray) (hb:IsTup s.heap b ws.toArray) (hv:vs=[]) (h:Q (.ref b) s) :
  wpAny (model prog w) A (binaryOp .Add (.ref t) (.ref b)) Q E s:=by
 obtain ⟨⟨c1,d1,a1,s1⟩,g1,e1,n1,f1⟩:=id ht
 obtain ⟨⟨c2,d2,a2,s2⟩,g2,e2,n2,f2⟩:=id hb
 cases e1
 cases f1
 cases e2
 cases f2
 refine concat_meets ⟨_,g1,rfl⟩ ⟨_,g2,rfl⟩ noFill_tuple_add seq_tuple_add
  PySem.F.slot_tuple_add PySem.F.entry_tuple_add (PySem.F.args_tuple_add_2 _ _) (tuple_addW0 t b vs.toArray ws.toArray n1 n2 d1 d2 s1 s2 ?_) ⟨g1,g2,h⟩
 rw [hv]; rfl
theorem X4 (op:Operator):lG X (binaryOp op) (uT X.K (gO op)):=by
 intro pins s σ H x y v u Q I rx ry h
 obtain ⟨d,e,θ,μ,Qd,wk,rd,re,hw,f⟩:=h
 unfold gO at hw
 split at hw
 ·rename_i i j
  have ex:=aF rd
  have ey:=aF re
  split at hw
  ·exact WM pins s σ H x y v u Q I rx ry ⟨i,j,ex,ey,f.at wk aY hw⟩
  ·exact Wx pins s σ H x y v u Q I rx ry ⟨i,j,ex,ey,f.at wk aY hw⟩
  ·exact Wz pins s σ H x y v u Q I rx ry ⟨i,j,ex,ey,hw.1,f.at wk aY hw.2⟩
  ·exact M7 pins s σ H x y v u Q I rx ry ⟨i,j,ex,ey,hw.1,f.at wk aY hw.2⟩
  ·exact WD pins s σ H x y v u Q I rx ry ⟨i,j,ex,ey,hw.1,f.at wk aY hw.2⟩
  ·exact Wy pins s σ H x y v u Q I rx ry ⟨i,j,ex,ey,hw.1,f.at wk aY hw.2⟩
  ·exact hw.elim
 ·rename_i a b
  obtain ⟨ex,hx⟩:=bG rd
  obtain ⟨ey,hy⟩:=bG re
  split at hw
  ·have hl:(a ++ b).length<=sizeLine:=by rw [List.length_append,<- ou]; exact hw.1
   have hq:=f.at wk (nY hl) hw.2
   refine Fg pins s σ H x y v u Q I rx ry ⟨_,_,ex,ey,?_,?_⟩
   ·show a.toArray.size + b.toArray.size<=_
    rw [<- ou]; simpa using hw.1
   ·have e:(⟨a.toArray⟩ ++ ⟨b.toArray⟩:Str)=⟨(a ++ b).toArray⟩:=by
     show Str.mk (a.toArray ++ b.toArray)=_
     simp
    rw [e]; exact hq
  ·exact hw.elim
 ·rename_i a n
  obtain ⟨rfl,hx⟩:=bG rd
  cases aF re
  split at hw
  ·obtain ⟨⟨n2,n3,a1,a2⟩,hq⟩:=hw
   obtain ⟨t,rfl⟩:=rx
   obtain ⟨u',rfl⟩:=ry
   have hal:(⟨a.toArray⟩:Str).length=a.length:=by simp [Str.length]
   have Z0:∀ (m:Nat) (acc:Array Nat),((List.replicate m a.toArray).foldl (· ++ ·) acc).toList=acc.toList ++ (List.replicate m a).flatten:=by
    intro m
    induction m with
    | zero=>intro acc; simp
    | succ m ih=>intro acc; rw [List.replicate_succ,List.foldl_cons,ih]; simp [List.replicate_succ]
   have hlen:(List.replicate n.toNat a).flatten.length=n.toNat * a.length:=by simp
   have hle:n.toNat * a.length<=1000 * 1000:=Nat.mul_le_mul (by lia) a2
   have ZS:(List.replicate n.toNat a).flatten.length<=sizeLine:=by rw [hlen,sizeLine_eq]; lia
   have e:(⟨(List.replicate n.toNat (⟨a.toArray⟩:Str).cps).foldl (· ++ ·) #[]⟩:Str)=⟨(List.replicate n.toNat a).flatten.toArray⟩:=by
    have:=Z0 n.toNat #[]
    congr 1
    apply Array.toList_inj.mp
    simpa using this
   refine PySem.P.mul_str (by rw [decide_eq_false (by lia),decide_eq_false (by lia)]; rfl) (fun _ _=>?_) (fun _ _=>?_) ?_
   ·rw [hal]
    have:(1000:Int)<=(2 ^ 63 - 1) / n:=(Int.le_ediv_iff_mul_le (by lia)).mpr (by lia)
    lia
   ·rw [hal]
    have h3:a.length * n.toNat<=1000000:=by rw [Nat.mul_comm]; lia
    unfold Builtin.Str.tooLong
    exact decide_eq_false (Nat.not_lt.mpr (Nat.le_trans h3 (by rw [sizeLine_eq]; decide)))
   ·by_cases n0:n=0
    ·subst n0
     exact ⟨by decide,.str _,H,I.tok _,⟨_,rfl⟩,f.at wk (nY ZS) hq⟩
    by_cases n1:n=1
    ·subst n1
     have e1:(List.replicate (1:Int).toNat a).flatten=a:=by simp
     rw [e1] at hq ZS
     exact ⟨.str _,H,I,⟨_,rfl⟩,f.at wk (nY ZS) hq⟩
    rw [if_neg (by lia),if_neg (by rw [hal]; simp only [Bool.or_eq_true,beq_iff_eq]; lia),e]
    exact ⟨by simpa [Str.length] using ZS,.str _,H,I.tok _,⟨_,rfl⟩,f.at wk (nY ZS) hq⟩
  ·exact hw.elim
 ·rename_i a b
  obtain ⟨p,xs,ex,hx,_,r1⟩:=fG rd
  obtain ⟨q,ys,ey,hy,_,r2⟩:=fG re
  split at hw
  ·have l1:=r1.length
   have l2:=r2.length
   refine WL pins s σ H x y v u Q I rx ry ⟨p,q,xs,ys,ex,ey,hx,hy,by have h1:=hw.1; rw [l1,l2,ou] at h1; exact h1,fun z hz=>?_⟩
   exact zm wk f (r1.append r2) hw.2 hz
  ·exact hw.elim
 ·rename_i a b
  obtain ⟨p,xs,ex,hx,nx,r1⟩:=bR rd
  obtain ⟨q,ys,ey,hy,_,r2⟩:=bR re
  split at hw
  ·obtain ⟨h2,h3⟩:=hw
   have l1:=r1.length
   have l2:=r2.length
   by_cases h1:a=[]
   ·subst h1
    rw [List.nil_append] at h3
    subst ex ey
    cases rx
    cases ry
    obtain ⟨its,q1,p1,_⟩:=I.tuple (qu.of hx)
    obtain ⟨its2,q2,p2,_⟩:=I.tuple (qu.of hy)
    have e1:its=[]:=List.length_eq_zero_iff.mp (by rw [<- q1.length,<- l1]; rfl)
    exact Ld p1 p2 e1 ⟨.ref q,H,I,rfl,f.at wk re h3⟩
   refine RB pins s σ H x y v u Q I rx ry ⟨p,q,xs,ys,ex,ey,.of hx,.of hy,?_,by rw [l1,l2,ou] at h2; exact h2,fun z=>?_,fun z w hw'=>zj wk f (r1.append r2) h3 hw'⟩
   ·intro z; rw [z] at l1; exact h1 (List.length_eq_zero_iff.mp l1)
   ·rw [z] at l2
    have e:b=[]:=List.length_eq_zero_iff.mp l2
    rw [e,List.append_nil] at h3
    rw [<- ex]
    exact f.at wk rd h3
  ·exact hw.elim
 ·exact hw.elim
end
end DW
end
section
namespace DW
open PySem
structure Ctx where
 N:List Str
 names:List (Str×NameKind)
 bC:List Str
 calm:Bool
 rs:Bool
noncomputable abbrev Ctx.Qc (c:Ctx) (N:List Str) (names:List (Str×NameKind)):Ctx:=⟨N,names,c.bC,c.calm,true⟩
noncomputable abbrev Ctx.of (N:List Str) (names:List (Str×NameKind)) (bC:List Str):Ctx:=⟨N,names,bC,true,true⟩
noncomputable def Ctx.vis (c:Ctx) (x:Str):Bool:=match c.names.lookup x with
 | some .local=>true
 | some .cell=>true
 | some .free=>true
 | _=>false
noncomputable def Ctx.loc (c:Ctx) (x:Str):Bool:=match c.names.lookup x with
 | some .local=>true
 | some .cell=>true
 | _=>false
noncomputable def Ctx.kY (c:Ctx) (x:Str):Bool:=match c.names.lookup x with
 | some .globalImplicit=>true
 | _=>false
noncomputable def Ctx.at_ (c:Ctx) (i:Nat) (x:Str):Bool:=match c.N[i]? with
 | some y=>decide (y=x)
 | none=>false
noncomputable def cG (x:Str):Bool:=(x == ("__debug__" : Str)) || (x == ("__classdict__" : Str))
noncomputable def mC:Const->D->Bool
 | .none,.non=>true
 | .bool a,.bl b=>a == b
 | .int i,.int j=>i == j
 | .str s,.str x=>decide (s.cps.toList=x) && decide (x.length<=16777216)
 | _,_=>false
noncomputable def notStar:Expr->Bool
 | .Starred ..=>false
 | _=>true
noncomputable def fj:Expr->Bool
 | .Set ..=>false
 | _=>true
noncomputable def cX:Expr->Bool
 | .ListComp ..=>false
 | .SetComp ..=>false
 | .DictComp ..=>false
 | _=>true
noncomputable def dU:Expr->Bool
 | .Name ..=>true
 | .Constant ..=>true
 | .BinOp ..=>true
 | .UnaryOp ..=>true
 | .Call ..=>true
 | .Subscript ..=>true
 | .Attribute ..=>true
 | .Tuple ..=>true
 | _=>false
noncomputable def vB:Expr->Bool
 | .Name ..=>true
 | .Subscript ..=>true
 | .Attribute ..=>true
 | .Constant ..=>true
 | .Call (.Name ..) (_ :: _) _ _=>true
 | .Call (.Attribute ..) _ _ _=>true
 | _=>false
theorem vA {f:Expr} {as:List Expr} {ks:List Keyword} {p:Pos} (h:vB (.Call f as ks p)=true):(∃ x q a r,f = .Name x q/\as=a :: r)∨∃ o m q,f = .Attribute o m q:=by
 cases f with
 | Name x q=>cases as with
  | nil=>exact (Bool.false_ne_true h).elim
  | cons a r=>exact .inl ⟨x,q,a,r,rfl,rfl⟩
 | Attribute o m q=>exact .inr ⟨o,m,q,rfl⟩
 | _=>exact (Bool.false_ne_true h).elim
noncomputable def Pg (x:String):Str:=if x = "mlist" then "list" else if x = "msorted" then "sorted" else if x = "isorted" then "sorted" else if x = "dsorted" then "sorted" else if x = "min3" then "min" else if x = "tsorted" then "sorted" else if x = "mtsorted" then "sorted" else Str.ofString x
noncomputable def bH (c:Ctx) (x:Str):Bool:=c.kY x && c.bC.contains x
noncomputable def ZJ:Option Expr->aC->Bool
 | some (.Constant (.int i) _ _),.inl j=>i == j
 | some (.Constant (.str s) _ _),.inr x=>decide (s.cps.toList=x)
 | _,_=>false
noncomputable def gC (c:Ctx):List Nat->Option (List Str)
 | []=>some []
 | i :: is=>match c.N[i]?,gC c is with
  | some x,some r=>some (x :: r)
  | _,_=>none
noncomputable def vm (c:Ctx) (scope:Scope) (Nc:List Str) (cap:List Str):Bool :=
 (scope.kind == .function) && scope.names.all (fun y=>y.2 != .cell || (scope.names.lookup y.1 == some .cell)) && scope.names.all (fun y=>y.2 != .local || (scope.names.lookup y.1 == some .local)) &&
 decide (Nc.Nodup) && cap.all (fun y=>scope.names.lookup y == some .free) && scope.names.all (fun y=>y.2 != .free || (c.names.lookup y.1 == some .cell || c.names.lookup y.1 == some .free))
noncomputable def namesOf:List Expr->Option (List Str)
 | []=>some []
 | .Name x _ :: as=>(namesOf as).map (x :: ·)
 | _ :: _=>none
noncomputable def sH (tt:Bool) (a:Expr):Option (List Str):=match tt with
 | false=>match a with | .Name x _=>some [x] | _=>none
 | true=>match a with | .Tuple ts _ _=>namesOf ts | _=>none
noncomputable def fu (c:Ctx):List Nat->List Expr->Bool
 | [],[]=>true
 | i :: is,a :: as=>(match a with | .Name x _=>c.at_ i x && c.loc x | _=>false) && fu c is as
 | _,_=>false
noncomputable def W3 (c:Ctx) (is:List Nat) (tt:Bool) (a:Expr):Bool :=
 match tt with
 | false=>fu c is [a]
 | true=>match a with | .Tuple ts _ _=>fu c is ts | _=>false
noncomputable def nC (tt:Bool):It->Bool
 | .enum _ _=>tt
 | _=>true
noncomputable def DN (c:Ctx):List String->List Expr->Bool
 | [],[]=>true
 | t :: ts,a :: as=>(match a with | .Name z _=>z == Str.ofString t && c.kY z && !cG z | _=>false) && DN c ts as
 | _,_=>false
noncomputable def mCl (c:Ctx) (tt:Bool) (ts:List String) (a:Expr):Bool:=match tt with
 | false=>DN c ts [a]
 | true=>match a with | .Tuple es _ _=>DN c ts es && decide (es.length<=16777216) | _=>false
noncomputable def opt {α:Type} (o:Option α) (f:α->Bool):Bool:=match o with
 | some x=>f x
 | none=>false
theorem ao {α:Type} {o:Option α} {f:α->Bool} (h:opt o f=true):∃ x,o=some x/\f x=true:=by
 cases o with
 | none=>exact (Bool.false_ne_true h).elim
 | some x=>exact ⟨x,rfl,h⟩
theorem aj {α:Type} {x:α} {P:Prop} (h:none=some x):P:=(Option.some_ne_none x h.symm).elim
noncomputable def jg:Expr->Option Str
 | .Name x _=>some x
 | _=>none
theorem fL {a:Expr} {t:Str} (h:jg a=some t):∃ p,a = .Name t p:=by
 cases a with
 | Name x p=>cases Option.some.inj (show some x=some t from h); exact ⟨p,rfl⟩
 | _=>exact aj h
noncomputable def Ef:Expr->Option Const
 | .Constant k _ _=>some k
 | _=>none
theorem Ed {a:Expr} {t:Const} (h:Ef a=some t):∃ j p,a = .Constant t j p:=by
 cases a with
 | Constant k j p=>cases Option.some.inj (show some k=some t from h); exact ⟨j,p,rfl⟩
 | _=>exact aj h
noncomputable def Vw:Expr->Option (Expr×Operator×Expr)
 | .BinOp l o r _=>some (l,o,r)
 | _=>none
theorem KJ {a:Expr} {t:(Expr×Operator×Expr)} (h:Vw a=some t):∃ p,a = .BinOp t.1 t.2.1 t.2.2 p:=by
 cases a with
 | BinOp l o r p=>cases Option.some.inj (show some (l,o,r)=some t from h); exact ⟨p,rfl⟩
 | _=>exact aj h
noncomputable def yq:Expr->Option (Expr×Expr)
 | .Subscript x y _=>some (x,y)
 | _=>none
theorem oZ {a:Expr} {t:(Expr×Expr)} (h:yq a=some t):∃ p,a = .Subscript t.1 t.2 p:=by
 cases a with
 | Subscript x y p=>cases Option.some.inj (show some (x,y)=some t from h); exact ⟨p,rfl⟩
 | _=>exact aj h
noncomputable def yp:Expr->Option (List Expr)
 | .Tuple x _ _=>some x
 | _=>none
theorem oY {a:Expr} {t:(List Expr)} (h:yp a=some t):∃ k p,a = .Tuple t k p:=by
 cases a with
 | Tuple x k p=>cases Option.some.inj (show some x=some t from h); exact ⟨k,p,rfl⟩
 | _=>exact aj h
noncomputable def Vv:Expr->Option (List Expr)
 | .List x _=>some x
 | _=>none
theorem Kw {a:Expr} {t:(List Expr)} (h:Vv a=some t):∃ p,a = .List t p:=by
 cases a with
 | List x p=>cases Option.some.inj (show some x=some t from h); exact ⟨p,rfl⟩
 | _=>exact aj h
noncomputable def Vu:Expr->Option Expr
 | .UnaryOp .USub l _=>some l
 | _=>none
theorem Kv {a:Expr} {t:Expr} (h:Vu a=some t):∃ p,a = .UnaryOp .USub t p:=by
 cases a with
 | UnaryOp o l p =>
  cases o with
  | USub=>cases Option.some.inj (show some l=some t from h); exact ⟨p,rfl⟩
  | _=>exact aj h
 | _=>exact aj h
noncomputable def Vt:Expr->Option Expr
 | .UnaryOp .Not l _=>some l
 | _=>none
theorem Ku {a:Expr} {t:Expr} (h:Vt a=some t):∃ p,a = .UnaryOp .Not t p:=by
 cases a with
 | UnaryOp o l p =>
  cases o with
  | Not=>cases Option.some.inj (show some l=some t from h); exact ⟨p,rfl⟩
  | _=>exact aj h
 | _=>exact aj h
noncomputable def KH:Expr->Option (Expr×CmpOp×Expr)
 | .Compare l [o] [r] _=>some (l,o,r)
 | _=>none
theorem Av {a:Expr} {t:(Expr×CmpOp×Expr)} (h:KH a=some t):∃ p,a = .Compare t.1 [t.2.1] [t.2.2] p:=by
 cases a with
 | Compare l os rs p =>
  match os,rs,h with
  | [o],[r],h=>cases Option.some.inj (show some (l,o,r)=some t from h); exact ⟨p,rfl⟩
  | [],_,h=>exact aj h
  | _ :: _ :: _,_,h=>exact aj h
  | [_],[],h=>exact aj h
  | [_],_ :: _ :: _,h=>exact aj h
 | _=>exact aj h
noncomputable def KD:Expr->Option (Expr×CmpOp×CmpOp×Expr×Expr)
 | .Compare l [o,q] [m,r] _=>some (l,o,q,m,r)
 | _=>none
theorem Ih {a:Expr} {t:(Expr×CmpOp×CmpOp×Expr×Expr)} (h:KD a=some t):∃ p,a = .Compare t.1 [t.2.1,t.2.2.1] [t.2.2.2.1,t.2.2.2.2] p:=by
 cases a with
 | Compare l os rs p =>
  match os,rs,h with
  | [o,q],[m,r],h=>cases Option.some.inj (show some (l,o,q,m,r)=some t from h); exact ⟨p,rfl⟩
  | [],_,h=>exact aj h
  | [_],_,h=>exact aj h
  | _ :: _ :: _ :: _,_,h=>exact aj h
  | [_,_],[],h=>exact aj h
  | [_,_],[_],h=>exact aj h
  | [_,_],_ :: _ :: _ :: _,h=>exact aj h
 | _=>exact aj h
noncomputable def Vx:Expr->Option (Expr×Expr)
 | .BoolOp .And (v :: w :: rest) p=>some (v,match rest with | []=>w | _ :: _=>.BoolOp .And (w :: rest) p)
 | _=>none
theorem KN {a:Expr} {t:Expr×Expr} (h:Vx a=some t):(∃ p,a = .BoolOp .And [t.1,t.2] p)∨∃ w z rest p,a = .BoolOp .And (t.1 :: w :: z :: rest) p/\t.2 = .BoolOp .And (w :: z :: rest) p:=by
 cases a with
 | BoolOp o vs p =>
  cases o with
  | And =>
   match vs,h with
   | [v,w],h=>cases Option.some.inj (show some (v,w)=some t from h); exact .inl ⟨p,rfl⟩
   | v :: w :: z :: rest,h=>cases Option.some.inj (show some (v,.BoolOp .And (w :: z :: rest) p)=some t from h); exact .inr ⟨w,z,rest,p,rfl,rfl⟩
   | [],h=>exact aj h
   | [_],h=>exact aj h
  | _=>exact aj h
 | _=>exact aj h
noncomputable def vOr:Expr->Option (Expr×Expr)
 | .BoolOp .Or (v :: w :: rest) p=>some (v,match rest with | []=>w | _ :: _=>.BoolOp .Or (w :: rest) p)
 | _=>none
theorem Qq {a:Expr} {t:Expr×Expr} (h:vOr a=some t):(∃ p,a = .BoolOp .Or [t.1,t.2] p)∨∃ w z rest p,a = .BoolOp .Or (t.1 :: w :: z :: rest) p/\t.2 = .BoolOp .Or (w :: z :: rest) p:=by
 cases a with
 | BoolOp o vs p =>
  cases o with
  | Or =>
   match vs,h with
   | [v,w],h=>cases Option.some.inj (show some (v,w)=some t from h); exact .inl ⟨p,rfl⟩
   | v :: w :: z :: rest,h=>cases Option.some.inj (show some (v,.BoolOp .Or (w :: z :: rest) p)=some t from h); exact .inr ⟨w,z,rest,p,rfl,rfl⟩
   | [],h=>exact aj h
   | [_],h=>exact aj h
  | _=>exact aj h
 | _=>exact aj h
noncomputable def eV:Expr->Option (Str×List Expr)
 | .Call (.Name y _) as [] _=>some (y,as)
 | _=>none
theorem bY {a:Expr} {t:(Str×List Expr)} (h:eV a=some t):∃ p q,a = .Call (.Name t.1 p) t.2 [] q:=by
 cases a with
 | Call f as ks q =>
  cases f with
  | Name y p =>
   cases ks with
   | nil=>cases Option.some.inj (show some (y,as)=some t from h); exact ⟨p,q,rfl⟩
   | cons _ _=>exact aj h
  | _=>exact aj h
 | _=>exact aj h
noncomputable def Ar:Expr->Option (Expr×Str×List Expr×Bool)
 | .Call (.Attribute o m p) as [] q=>some (o,m,as,p.endLine == q.line)
 | _=>none
theorem qC {a:Expr} {t:(Expr×Str×List Expr×Bool)} (h:Ar a=some t):∃ p q,a = .Call (.Attribute t.1 t.2.1 p) t.2.2.1 [] q/\t.2.2.2=(p.endLine == q.line):=by
 cases a with
 | Call f as ks q =>
  cases f with
  | Attribute o m p =>
   cases ks with
   | nil=>cases Option.some.inj (show some (o,m,as,p.endLine == q.line)=some t from h); exact ⟨p,q,rfl,rfl⟩
   | cons _ _=>exact aj h
  | _=>exact aj h
 | _=>exact aj h
noncomputable def Vs:Expr->Option (Expr×Option Expr×Option Expr)
 | .Subscript x (.Slice lo hi none _) _=>some (x,lo,hi)
 | _=>none
theorem Kr {a:Expr} {t:(Expr×Option Expr×Option Expr)} (h:Vs a=some t):∃ p q,a = .Subscript t.1 (.Slice t.2.1 t.2.2 none p) q:=by
 cases a with
 | Subscript x y q =>
  cases y with
  | Slice lo hi st p =>
   cases st with
   | none=>cases Option.some.inj (show some (x,lo,hi)=some t from h); exact ⟨p,q,rfl⟩
   | some _=>exact aj h
  | _=>exact aj h
 | _=>exact aj h
noncomputable def yj:List Expr->Option (Expr×Expr)
 | [x,y]=>some (x,y)
 | _=>none
theorem oX {a:List Expr} {t:Expr×Expr} (h:yj a=some t):a=[t.1,t.2]:=by
 match a,h with
 | [x,y],h=>cases Option.some.inj (show some (x,y)=some t from h); rfl
 | [],h=>exact aj h
 | [_],h=>exact aj h
 | _ :: _ :: _ :: _,h=>exact aj h
noncomputable def vF4:List Expr->Option (List Nat×Expr×List Nat×Expr)
 | [.Constant (.str s) _ _,.FormattedValue v c none _,.Constant (.str t) _ _,.FormattedValue u d none _]=>if c = -1/\d = -1 then some (s.cps.toList,v,t.cps.toList,u) else none
 | _=>none
noncomputable def Qs:Expr->Option (List Nat×Expr×List Nat×Expr)
 | .JoinedStr vs _=>vF4 vs
 | _=>none
theorem Ky {e:Expr} {t:List Nat×Expr×List Nat×Expr} (h:Qs e=some t):∃ s1 j1 p1 p2 s2 j2 p3 p4 p,e = .JoinedStr [.Constant (.str s1) j1 p1,.FormattedValue t.2.1 (-1) none p2,.Constant (.str s2) j2 p3,.FormattedValue t.2.2.2 (-1) none p4] p/\s1.cps.toList=t.1/\s2.cps.toList=t.2.2.1:=by
 unfold Qs at h
 split at h
 ·unfold vF4 at h
  split at h
  ·split at h
   ·rename_i hc
    obtain ⟨rfl,rfl⟩:=hc
    cases h
    exact ⟨_,_,_,_,_,_,_,_,_,rfl,rfl,rfl⟩
   ·cases h
  ·cases h
 ·cases h
noncomputable def vF3:List Expr->Option (List Nat×Expr×List Nat)
 | [.Constant (.str s) _ _,.FormattedValue v c none _,.Constant (.str t) _ _]=>if c = -1 then some (s.cps.toList,v,t.cps.toList) else none
 | _=>none
noncomputable def Qt:Expr->Option (List Nat×Expr×List Nat)
 | .JoinedStr vs _=>vF3 vs
 | _=>none
theorem Kz {e:Expr} {t:List Nat×Expr×List Nat} (h:Qt e=some t):∃ s1 j1 p1 p2 s2 j2 p3 p,e = .JoinedStr [.Constant (.str s1) j1 p1,.FormattedValue t.2.1 (-1) none p2,.Constant (.str s2) j2 p3] p/\s1.cps.toList=t.1/\s2.cps.toList=t.2.2:=by
 unfold Qt at h
 split at h
 ·unfold vF3 at h
  split at h
  ·split at h
   ·rename_i hc
    subst hc
    cases h
    exact ⟨_,_,_,_,_,_,_,_,rfl,rfl,rfl⟩
   ·cases h
  ·cases h
 ·cases h
noncomputable def Ec:Expr->Bool
 | .Dict [] [] _=>true
 | _=>false
theorem Eb {a:Expr} (h:Ec a=true):∃ p,a = .Dict [] [] p:=by
 unfold Ec at h
 split at h
 ·exact ⟨_,rfl⟩
 ·cases h
noncomputable def Ks:List Expr->Option Expr
 | [x]=>some x
 | _=>none
theorem Aq {a:List Expr} {t:Expr} (h:Ks a=some t):a=[t]:=by
 match a,h with
 | [x],h=>cases Option.some.inj (show some x=some t from h); rfl
 | [],h=>exact aj h
 | _ :: _ :: _,h=>exact aj h
noncomputable def yr:Expr->Option (Expr×Expr)
 | .Dict [some k] [v] _=>some (k,v)
 | _=>none
theorem Ea {a:Expr} {t:Expr×Expr} (h:yr a=some t):∃ p,a = .Dict [some t.1] [t.2] p:=by
 unfold yr at h
 split at h
 ·cases Option.some.inj h; exact ⟨_,rfl⟩
 ·cases h
noncomputable def KC:Expr->Option (Expr×Expr×Expr×List Expr×Scope)
 | .ListComp e [g] s _=>if g.is_async=0 then some (e,g.target,g.iter,g.ifs,s) else none
 | _=>none
theorem wX {a:Expr} {t:Expr×Expr×Expr×List Expr×Scope} (h:KC a=some t):∃ p,a = .ListComp t.1 [⟨t.2.1,t.2.2.1,t.2.2.2.1,0⟩] t.2.2.2.2 p:=by
 cases a with
 | ListComp e gs s p =>
  match gs,h with
  | [⟨tg,it,ifs,k⟩],h =>
   have h:(if k=0 then some (e,tg,it,ifs,s) else none)=some t:=h
   by_cases q:k=0
   ·rw [if_pos q] at h; cases Option.some.inj h; exact ⟨p,by rw [q]⟩
   ·rw [if_neg q] at h; exact aj h
  | [],h=>exact aj h
  | _ :: _ :: _,h=>exact aj h
 | _=>exact aj h
noncomputable def W6 (ks:List aC) (as:Es) (a:Expr):Bool:=match ks,as,a with
 | [k],.cons (.cst (.int i)) .nil,.Dict [k'] [.Constant (.int j) _ _] _=>ZJ k' k && i == j
 | _,_,_=>false
noncomputable def mG (c:Ctx) (y:Str) (a:Expr):Bool:=opt (jg a) fun x=>x == y && c.kY x && !cG x
noncomputable def uw:It->Bool
 | .rng as=>decide (gB as<=2)
 | _=>false
mutual
noncomputable def mE (c:Ctx):E->Expr->Bool
 | .var i,a=>opt (jg a) fun x=>c.at_ i x && c.vis x && !cG x
 | .cst d,a=>opt (Ef a) fun k=>mC k d
 | .Xw y d,a=>opt (jg a) fun x=>x == y && c.kY x && !cG x
 | .bin op l r,a=>opt (Vw a) fun t=>op == t.2.1 && mE c l t.1 && mE c r t.2.2
 | .neg l,a=>opt (Vu a) fun t=>mE c l t
 | .not l,a=>opt (Vt a) fun t=>mE c l t
 | .cmp op l r,a=>opt (KH a) fun t=>op == t.2.1 && mE c l t.1 && mE c r t.2.2 && fj t.2.2
 | .wN l r n,a=>opt (KH a) fun t=>(t.2.1 == (if n then CmpOp.NotEq else CmpOp.Eq)) && mE c l t.1 && mE c r t.2.2 && fj t.2.2
 | .chain p q l m r,a=>opt (KD a) fun t=>p == t.2.1 && q == t.2.2.1 && mE c l t.1 && mE c m t.2.2.2.1 && mE c r t.2.2.2.2 && fj t.2.2.2.2 && fj t.2.2.2.1
 | .and x y,a=>opt (Vx a) fun t=>mE c x t.1 && mE c y t.2
 | .or x y,a=>opt (vOr a) fun t=>mE c x t.1 && mE c y t.2
 | .call x _ as,a=>opt (eV a) fun t=>x == t.1 && c.kY x && !cG x && jC c as t.2
 | .blt x as,a=>opt (eV a) fun t=>c.calm && zB.contains x && Pg x == t.1 && bH c t.1 && jC c as t.2 && !t.2.isEmpty
 | .Gq x l r,a=>false || (opt (yr a) fun t=>(x == "{}" || x == "{t}") && mE c l t.1 && mE c r t.2) || false || false
 | .isin l t,a=>opt (eV a) fun q=>opt (yj q.2) fun w=>opt (jg w.2) fun z=>(q.1 == Str.ofString "isinstance") && bH c q.1 && ["int","bool","str","tuple","list","dict"].contains t && (z == Str.ofString t) && bH c z && mE c l w.1 && notStar w.1
 | .isin l t (some _),a=>false
 | .Qa m o as,a=>opt (Ar a) fun t=>["get","clear"].contains m && t.2.1 == Str.ofString m && vB t.1 && t.2.2.2 && mE c o t.1 && jC c as t.2.2.1 && decide (t.2.2.1.length < 30) && (t.2.2.1.isEmpty == (m == "clear"))
 | .U9 pre mid x i y j true,a=>opt (Qs a) fun t=>(t.1 == pre) && (t.2.2.1 == mid) && mG c x t.2.1 && mG c y t.2.2.2
 | .U9 pre mid x i y j false,a=>opt (Qt a) fun t=>(t.1 == pre) && (t.2.2 == mid) && mG c x t.2.1
 | .idx x y,a=>opt (yq a) fun t=>mE c x t.1 && mE c y t.2 && dU t.2
 | .slc _ x lo hi,a=>opt (Vs a) fun t=>mE c x t.1 && mO c lo t.2.1 && mO c hi t.2.2
 | .tup as,a=>opt (yp a) fun es=>jC c as es && decide (es.length<=16777216)
 | .lst _ as,a=>opt (Vv a) fun es=>jC c as es && decide (es.length<=16777216)
 | .dsp ks as,a=>W6 ks as a
 | .comp _ n tt cap elt it cond,a=>opt (KC a) fun t=>(c.calm || (uw it && !tt)) && opt (sH tt t.2.1) fun xs=>opt (gC c cap) fun cs=>n == xs.length && vm c t.2.2.2.2 (xs ++ cs) cs && nC tt it && mI c it t.2.2.1 && W3 (c.Qc (xs ++ cs) t.2.2.2.2.names) (List.range n) tt t.2.1 && mE (c.Qc (xs ++ cs) t.2.2.2.2.names) elt t.1 && jC (c.Qc (xs ++ cs) t.2.2.2.2.names) cond t.2.2.2.1 && decide (t.2.2.2.1.length<=1)
 | .bK x _,a=>mE c x a
 | .Dc _,a=>Ec a
 | .qd x y,a=>opt (yq a) fun t=>c.calm && mE c x t.1 && mE c y t.2 && dU t.2
 | .Nx m x r,a=>opt (eV a) fun t=>opt (Ks t.2) fun ra=>opt (eV ra) fun u=>opt (Ks u.2) fun z=>c.calm && (t.1 == Str.ofString (lrN m)) && bH c t.1 && (u.1 == Str.ofString (lrM r)) && bH c u.1 && notStar ra && mE c x z && notStar z && !r && m.isSome
 | .wG l tt ts _,a=>opt (eV a) fun q=>opt (yj q.2) fun w=>(q.1 == Str.ofString "isinstance") && bH c q.1 && mE c l w.1 && notStar w.1 && mCl c tt ts w.2
noncomputable def jC (c:Ctx):Es->List Expr->Bool
 | .nil,as=>as.isEmpty
 | .cons e es,as=>match as with | []=>false | a :: as=>mE c e a && notStar a && jC c es as
noncomputable def mO (c:Ctx):Es->Option Expr->Bool
 | .nil,a=>a.isNone
 | .cons e es,a=>match a,es with | some a,.nil=>mE c e a | _,_=>false
noncomputable def mI (c:Ctx):It->Expr->Bool
 | .seq e,a=>mE c e a && fj a
 | .rng as,a=>opt (eV a) fun t=>(t.1 == Str.ofString "range") && bH c t.1 && jC c as t.2 && (t.2.length == 1 || t.2.length == 2)
 | .enum l,a=>false
 | .enum o true,a=>opt (Ar a) fun t=>c.calm && t.2.1 == Str.ofString "items" && vB t.1 && t.2.2.2 && mE c o t.1 && t.2.2.1.isEmpty
end
noncomputable def qO:Expr->Bool
 | .Tuple ..=>false
 | .List ..=>false
 | _=>true
noncomputable def isLocal (c:Ctx) (x:Str):Bool:=c.names.lookup x == some .local
noncomputable def zH:E->Bool
 | .comp ..=>true
 | _=>false
noncomputable def MP (n:Str) (pn:Pos) (m:Str) (pm:Pos) (x y:Expr):Bool :=
 (pn.line == pm.line) && !decide (n=m) && !(foldedForSure 8 x && foldedForSure 8 y) && !(constantsAlone 8 x && constantsAlone 8 y) && notStar x && notStar y
noncomputable def Yp (c:Ctx):XC->Expr->Bool
 | .fn x sp as,a=>opt (eV a) fun t=>x == t.1 && c.kY x && !cG x && jC c as t.2
noncomputable def tV:Expr->Option (Str×Pos)
 | .Name x p=>some (x,p)
 | _=>none
theorem tU {a:Expr} {t:Str×Pos} (h:tV a=some t):a = .Name t.1 t.2:=by
 cases a with
 | Name x p=>cases Option.some.inj (show some (x,p)=some t from h); rfl
 | _=>exact aj h
noncomputable def qH:Stmt->Option (Expr×Expr)
 | .Assign [t] v _=>some (t,v)
 | _=>none
theorem jL {a:Stmt} {t:Expr×Expr} (h:qH a=some t):∃ p,a = .Assign [t.1] t.2 p:=by
 cases a with
 | Assign ts v p =>
  match ts,h with
  | [x],h=>cases Option.some.inj (show some (x,v)=some t from h); exact ⟨p,rfl⟩
  | [],h=>exact aj h
  | _ :: _ :: _,h=>exact aj h
 | _=>exact aj h
noncomputable def K9:Stmt->Option Expr
 | .Expr v _=>some v
 | _=>none
theorem Az {a:Stmt} {t:Expr} (h:K9 a=some t):∃ p,a = .Expr t p:=by
 cases a with
 | Expr v p=>cases Option.some.inj (show some v=some t from h); exact ⟨p,rfl⟩
 | _=>exact aj h
noncomputable def VD:Stmt->Option (Option Expr)
 | .Return v _=>some v
 | _=>none
theorem KY {a:Stmt} {t:Option Expr} (h:VD a=some t):∃ p,a = .Return t p:=by
 cases a with
 | Return v p=>cases Option.some.inj (show some v=some t from h); exact ⟨p,rfl⟩
 | _=>exact aj h
noncomputable def uIf:Stmt->Option (Expr×List Stmt×List Stmt)
 | .If t x y _=>some (t,x,y)
 | _=>none
theorem QB {a:Stmt} {t:Expr×List Stmt×List Stmt} (h:uIf a=some t):∃ p,a = .If t.1 t.2.1 t.2.2 p:=by
 cases a with
 | If u x y p=>cases Option.some.inj (show some (u,x,y)=some t from h); exact ⟨p,rfl⟩
 | _=>exact aj h
noncomputable def VL:Stmt->Option (Expr×Expr×List Stmt)
 | .For t i b [] _=>some (t,i,b)
 | _=>none
theorem K8 {a:Stmt} {t:Expr×Expr×List Stmt} (h:VL a=some t):∃ p,a = .For t.1 t.2.1 t.2.2 [] p:=by
 cases a with
 | For u i b e p =>
  cases e with
  | nil=>cases Option.some.inj (show some (u,i,b)=some t from h); exact ⟨p,rfl⟩
  | cons _ _=>exact aj h
 | _=>exact aj h
noncomputable def Vz:Stmt->Option (Expr×List Stmt)
 | .While t b [] _=>some (t,b)
 | _=>none
theorem KQ {a:Stmt} {t:Expr×List Stmt} (h:Vz a=some t):∃ p,a = .While t.1 t.2 [] p:=by
 cases a with
 | While u b e p =>
  cases e with
  | nil=>cases Option.some.inj (show some (u,b)=some t from h); exact ⟨p,rfl⟩
  | cons _ _=>exact aj h
 | _=>exact aj h
noncomputable def KZ:Stmt->Option Expr
 | .Raise (some e) none _=>some e
 | _=>none
theorem Ii {a:Stmt} {t:Expr} (h:KZ a=some t):∃ p,a = .Raise (some t) none p:=by
 cases a with
 | Raise e o p =>
  match e,o,h with
  | some e,none,h=>cases Option.some.inj (show some e=some t from h); exact ⟨p,rfl⟩
  | none,_,h=>exact aj h
  | some _,some _,h=>exact aj h
 | _=>exact aj h
noncomputable def VJ:ExceptHandler->Option (Expr×Str×Stmt×List Stmt)
 | .ExceptHandler (some y) (some n) (s :: r) _=>some (y,n,s,r)
 | _=>none
theorem K7 {a:ExceptHandler} {t:Expr×Str×Stmt×List Stmt} (h:VJ a=some t):∃ p,a = .ExceptHandler (some t.1) (some t.2.1) (t.2.2.1 :: t.2.2.2) p:=by
 cases a with
 | ExceptHandler y n b p =>
  match y,n,b,h with
  | some y,some n,s :: r,h=>cases Option.some.inj (show some (y,n,s,r)=some t from h); exact ⟨p,rfl⟩
  | none,_,_,h=>exact aj h
  | some _,none,_,h=>exact aj h
  | some _,some _,[],h=>exact aj h
noncomputable def VB:Stmt->Option (List Stmt×ExceptHandler)
 | .Try b [x] [] [] _=>some (b,x)
 | _=>none
theorem KR {a:Stmt} {t:List Stmt×ExceptHandler} (h:VB a=some t):∃ p,a = .Try t.1 [t.2] [] [] p:=by
 cases a with
 | Try b xs o f p =>
  match xs,o,f,h with
  | [x],[],[],h=>cases Option.some.inj (show some (b,x)=some t from h); exact ⟨p,rfl⟩
  | [],_,_,h=>exact aj h
  | _ :: _ :: _,_,_,h=>exact aj h
  | [_],_ :: _,_,h=>exact aj h
  | [_],[],_ :: _,h=>exact aj h
 | _=>exact aj h
mutual
noncomputable def mS (c:Ctx):S->Stmt->Bool
 | .set i e,a=>opt (qH a) fun t=>opt (jg t.1) fun x=>c.at_ i x && c.loc x && mE c e t.2 && (cX t.2 || zH e)
 | .IW is e,a=>opt (qH a) fun t=>opt (yp t.1) fun ts=>c.calm && fu c is ts && mE c e t.2 && cX t.2 && qO t.2
 | .dput o i e,a=>opt (qH a) fun t=>opt (yq t.1) fun u=>c.calm && mE c o u.1 && mE c i u.2 && dU u.2 && mE c e t.2 && cX t.2
 | .wZ o i e,a=>opt (qH a) fun t=>opt (yq t.1) fun u=>mE c o u.1 && mE c i u.2 && dU u.2 && mE c e t.2 && cX t.2
 | .exp e,a=>opt (K9 a) fun v=>mE c e v && cX v
 | .ret e,a=>opt (VD a) fun o=>opt o fun v=>mE c e v
 | .ite t x y,a=>opt (uIf a) fun u=>mE c t u.1 && jc c x u.2.1 && jc c y u.2.2
 | .for_ is tt it b,a=>opt (VL a) fun u=>c.calm && W3 c is tt u.1 && mI c it u.2.1 && jc c b u.2.2 && fj u.2.1 && nC tt it
 | .whl t b,a=>opt (Vz a) fun u=>mE c t u.1 && jc c b u.2
 | .p7 k,a=>opt (K9 a) fun v=>Yp c k v
 | .IV i k,a=>opt (qH a) fun t=>opt (jg t.1) fun x=>c.at_ i x && c.loc x && Yp c k t.2
 | .Je cn as,a=>opt (KZ a) fun v=>opt (eV v) fun t=>c.rs && c.calm && t.1 == Str.ofString cn && c.kY t.1 && !cG t.1 && jC c as t.2
 | .Ir P tab i b hs,a=>opt (VB a) fun t=>opt (VJ t.2) fun u=>opt (jg u.1) fun y=>c.calm && c.at_ i u.2.1 && c.loc u.2.1 && y == Str.ofString P && c.kY y && !cG y && jc { c with rs:=false } b t.1 && jc { c with rs:=false,calm:=false } hs (u.2.2.1 :: u.2.2.2)
 | .par i j x y,a=>opt (qH a) fun t=>opt (yp t.1) fun ts=>opt (yj ts) fun u=>opt (tV u.1) fun n=>opt (tV u.2) fun m=>opt (yp t.2) fun vs=>opt (yj vs) fun w=>c.calm && c.at_ i n.1 && c.at_ j m.1 && isLocal c n.1 && isLocal c m.1 && (i != j) && mE c x w.1 && mE c y w.2 && MP n.1 n.2 m.1 m.2 w.1 w.2
 | .Kc,_=>true
noncomputable def jc (c:Ctx):Ss->List Stmt->Bool
 | .nil,as=>as.isEmpty
 | .cons s r,as=>match as with | []=>false | a :: as=>mS c s a && jc c r as
end
inductive Rf where
 | fn (x:Str) | mth (c m:String) | mk (c:String) | fld (c f:String)
 | din (x:Str) (ks:List (List Nat)) | dsp (x:Str) (ks:List (List Nat)) (sp:iY)
 | lam
 | Yr (x:Str) | rsi (c:String) (ks:List String) | Ys (f:String) (tab:List String)
 | fnX (x:Str) (sp:iY) | RT (c m:String) (sp:iY) | mkX (c:String) (sp:iY) | Wa (c:String) | hdl (P:String) (tab:List String) | wG (tt:Bool) (ts:List String) (tab:List (String×Bool))
noncomputable def Rf.still:Rf->Bool
 | .fld _ _=>true
 | .wG _ _ _=>true
 | .Ys _ _=>true
 | _=>false
noncomputable def hRf (P:Rf->iZ->Prop):Rf->iZ->Prop
 | .fn x,sp=>P (.Yr x) sp
 | r,sp=>r.still=true/\P r sp
noncomputable def Bh:iZ:=fun _ _ _=>False
mutual
noncomputable def bJ (P:Rf->iZ->Prop) (G:Str->D->Prop):E->Prop
 | .Xw x d=>G x d
 | .bin _ a b=>bJ P G a/\bJ P G b
 | .neg a=>bJ P G a
 | .not a=>bJ P G a
 | .cmp _ a b=>bJ P G a/\bJ P G b
 | .wN a b _=>bJ P G a/\bJ P G b
 | .chain _ _ a b c=>bJ P G a/\bJ P G b/\bJ P G c
 | .and a b=>bJ P G a/\bJ P G b
 | .or a b=>bJ P G a/\bJ P G b
 | .call x sp as=>P (.fn x) sp/\dM P G as
 | .blt _ as=>dM P G as
 | .Gq x a b=>(x = "ksort"->P .lam Bh)/\bJ P G a/\bJ P G b
 | .isin a _=>bJ P G a
 | .isin a t (some ks)=>P (.din (Str.ofString t) ks) Bh/\bJ P G a
 | .Qa _ o as=>bJ P G o/\dM P G as
 | .U9 _ _ x i y j _=>G x (.int i)/\G y (.int j)
 | .idx a b=>bJ P G a/\bJ P G b
 | .slc _ a lo hi=>bJ P G a/\dM P G lo/\dM P G hi
 | .tup as=>dM P G as
 | .lst _ as=>dM P G as
 | .dsp _ as=>dM P G as
 | .comp _ _ _ _ elt it cond=>bJ P G elt/\RG P G it/\dM P G cond
 | .bK a _=>bJ P G a
 | .qd a b=>bJ P G a/\bJ P G b
 | .Nx _ a _=>bJ P G a
 | .wG a tt ts tab=>P (.wG tt ts tab) Bh/\bJ P G a
 | _=>True
noncomputable def dM (P:Rf->iZ->Prop) (G:Str->D->Prop):Es->Prop
 | .nil=>True
 | .cons e es=>bJ P G e/\dM P G es
noncomputable def RG (P:Rf->iZ->Prop) (G:Str->D->Prop):It->Prop
 | .seq e=>bJ P G e
 | .rng as=>dM P G as
 | .enum a _=>bJ P G a
end
noncomputable def Bw (P:Rf->iZ->Prop) (G:Str->D->Prop):XC->Prop
 | .fn x sp as=>P (.fnX x sp) Bh/\dM P G as
mutual
noncomputable def Yn (P:Rf->iZ->Prop) (G:Str->D->Prop):S->Prop
 | .set _ e=>bJ P G e
 | .IW _ e=>bJ P G e
 | .par _ _ a b=>bJ P G a/\bJ P G b
 | .dput o i e=>bJ P G o/\bJ P G i/\bJ P G e
 | .wZ o i e=>bJ P G o/\bJ P G i/\bJ P G e
 | .exp e=>bJ P G e
 | .ret e=>bJ P G e
 | .ite c a b=>bJ P G c/\bF P G a/\bF P G b
 | .for_ _ _ it b=>RG P G it/\bF P G b
 | .whl c b=>bJ P G c/\bF P G b
 | .p7 k=>Bw P G k
 | .IV _ k=>Bw P G k
 | .Je c as=>P (.Wa c) Bh/\dM P G as
 | .Ir Pn tab _ b h=>P (.hdl Pn tab) Bh/\bF P G b/\bF (hRf P) G h
 | _=>True
noncomputable def bF (P:Rf->iZ->Prop) (G:Str->D->Prop):Ss->Prop
 | .nil=>True
 | .cons s r=>Yn P G s/\bF P G r
end
end DW
end
section
namespace DW
open PySem
section
variable {P P':Rf->iZ->Prop} {G G':Str->D->Prop} (hp:∀ x sp,P x sp->P' x sp) (hg:∀ x d,G x d->G' x d)
include hp hg
mutual
theorem bJ.mono:∀ e:E,bJ P G e->bJ P' G' e
 | .var _,h=>trivial
 | .cst _,h=>trivial
 | .Xw x d,h=>hg x d h
 | .bin _ a b,h=>⟨bJ.mono a h.1,bJ.mono b h.2⟩
 | .neg a,h=>bJ.mono a h
 | .not a,h=>bJ.mono a h
 | .cmp _ a b,h=>⟨bJ.mono a h.1,bJ.mono b h.2⟩
 | .wN a b _,h=>⟨bJ.mono a h.1,bJ.mono b h.2⟩
 | .chain _ _ a b c,h=>⟨bJ.mono a h.1,bJ.mono b h.2.1,bJ.mono c h.2.2⟩
 | .and a b,h=>⟨bJ.mono a h.1,bJ.mono b h.2⟩
 | .or a b,h=>⟨bJ.mono a h.1,bJ.mono b h.2⟩
 | .call x sp as,h=>⟨hp (.fn x) sp h.1,dM.mono as h.2⟩
 | .blt _ as,h=>dM.mono as h
 | .Gq _ a b,h=>⟨fun z=>hp _ _ (h.1 z),bJ.mono a h.2.1,bJ.mono b h.2.2⟩
 | .isin a _,h=>bJ.mono a h
 | .isin a _ (some _),h=>⟨hp _ _ h.1,bJ.mono a h.2⟩
 | .Qa _ o as,h=>⟨bJ.mono o h.1,dM.mono as h.2⟩
 | .U9 _ _ x i y j _,h=>⟨hg _ _ h.1,hg _ _ h.2⟩
 | .idx a b,h=>⟨bJ.mono a h.1,bJ.mono b h.2⟩
 | .slc _ a lo hi,h=>⟨bJ.mono a h.1,dM.mono lo h.2.1,dM.mono hi h.2.2⟩
 | .tup as,h=>dM.mono as h
 | .lst _ as,h=>dM.mono as h
 | .dsp _ as,h=>dM.mono as h
 | .comp _ _ _ _ elt it cond,h=>⟨bJ.mono elt h.1,RG.mono it h.2.1,dM.mono cond h.2.2⟩
 | .bK a _,h=>bJ.mono a h
 | .Nx _ a _,h=>bJ.mono a h
 | .qd a b,h=>⟨bJ.mono a h.1,bJ.mono b h.2⟩
 | .Dc _,h=>trivial
 | .wG a _ _ _,h=>⟨hp _ _ h.1,bJ.mono a h.2⟩
theorem dM.mono:∀ e:Es,dM P G e->dM P' G' e
 | .nil,_=>trivial
 | .cons e es,h=>⟨bJ.mono e h.1,dM.mono es h.2⟩
theorem RG.mono:∀ e:It,RG P G e->RG P' G' e
 | .seq e,h=>bJ.mono e h
 | .rng as,h=>dM.mono as h
 | .enum a _,h=>bJ.mono a h
end
theorem Bw.mono:∀ k:XC,Bw P G k->Bw P' G' k
 | .fn x sp as,h=>⟨hp _ _ h.1,dM.mono hp hg as h.2⟩
end
theorem Om {P P':Rf->iZ->Prop} (hp:∀ x sp,P x sp->P' x sp) {x:Rf} {sp:iZ} (h:hRf P x sp):hRf P' x sp:=by
 cases x <;> first | exact hp _ _ h | exact ⟨h.1,hp _ _ h.2⟩
mutual
theorem Yn.mono:∀ (s:S) {P P':Rf->iZ->Prop} {G G':Str->D->Prop} (hp:∀ x sp,P x sp->P' x sp) (hg:∀ x d,G x d->G' x d),Yn P G s->Yn P' G' s
 | .set _ e,_,_,_,_,hp,hg,h=>bJ.mono hp hg e h
 | .IW _ e,_,_,_,_,hp,hg,h=>bJ.mono hp hg e h
 | .par _ _ a b,_,_,_,_,hp,hg,h=>⟨bJ.mono hp hg a h.1,bJ.mono hp hg b h.2⟩
 | .dput o i e,_,_,_,_,hp,hg,h=>⟨bJ.mono hp hg o h.1,bJ.mono hp hg i h.2.1,bJ.mono hp hg e h.2.2⟩
 | .wZ o i e,_,_,_,_,hp,hg,h=>⟨bJ.mono hp hg o h.1,bJ.mono hp hg i h.2.1,bJ.mono hp hg e h.2.2⟩
 | .exp e,_,_,_,_,hp,hg,h=>bJ.mono hp hg e h
 | .ret e,_,_,_,_,hp,hg,h=>bJ.mono hp hg e h
 | .ite c a b,_,_,_,_,hp,hg,h=>⟨bJ.mono hp hg c h.1,bF.mono a hp hg h.2.1,bF.mono b hp hg h.2.2⟩
 | .for_ _ _ it b,_,_,_,_,hp,hg,h=>⟨RG.mono hp hg it h.1,bF.mono b hp hg h.2⟩
 | .whl c b,_,_,_,_,hp,hg,h=>⟨bJ.mono hp hg c h.1,bF.mono b hp hg h.2⟩
 | .Kc,_,_,_,_,_,_,_=>trivial
 | .p7 k,_,_,_,_,hp,hg,h=>Bw.mono hp hg k h
 | .IV _ k,_,_,_,_,hp,hg,h=>Bw.mono hp hg k h
 | .Je c as,_,_,_,_,hp,hg,h=>⟨hp _ _ h.1,dM.mono hp hg as h.2⟩
 | .Ir Pn tab _ b hs,_,_,_,_,hp,hg,h=>⟨hp _ _ h.1,bF.mono b hp hg h.2.1,bF.mono hs (fun x sp z=>Om hp z) hg h.2.2⟩
theorem bF.mono:∀ (s:Ss) {P P':Rf->iZ->Prop} {G G':Str->D->Prop} (hp:∀ x sp,P x sp->P' x sp) (hg:∀ x d,G x d->G' x d),bF P G s->bF P' G' s
 | .nil,_,_,_,_,_,_,_=>trivial
 | .cons s r,_,_,_,_,hp,hg,h=>⟨Yn.mono s hp hg h.1,bF.mono r hp hg h.2⟩
end
end DW
end
section
set_option maxHeartbeats 2000000
namespace DW
open PySem PySem.Spec PyProof.Rows L2
section
variable {X:Cx} {pos:Pos}
end
end DW
end
section
namespace DW
open PySem PySem.Spec PyProof.Rows L2
mutual
noncomputable def pd:D->PyData
 | .non=>.none
 | .bl b=>.bool b
 | .int i=>.int i
 | .str x=>.str ⟨x.toArray⟩
 | .tup ds=>.tuple (xg ds)
 | .lst ds=>.list (xg ds)
 | _=>.none
noncomputable def xg:List D->List PyData
 | []=>[]
 | d :: ds=>pd d :: xg ds
end
mutual
theorem bZ:∀ (n:Nat) (d:D),flat n d=true->(pd d).canLay0=true
 | _,.non,_=>by simp [pd,PyData.canLay0]
 | _,.bl _,_=>by simp [pd,PyData.canLay0]
 | _,.int _,_=>by simp [pd,PyData.canLay0]
 | _,.str x,h=>by
  simp only [pd,PyData.canLay0,PyData.strOk]
  simpa [flat] using h
 | n + 1,.tup ds,h=>by simp only [pd,PyData.canLay0]; exact oR n ds (by simpa [flat] using h)
 | n + 1,.lst ds,h=>by simp only [pd,PyData.canLay0]; exact oR n ds (by simpa [flat] using h)
 | 0,.tup _,h=>by simp [flat] at h
 | 0,.lst _,h=>by simp [flat] at h
 | _,.ro _,h=>by simp [flat] at h
 | _,.loc _,h=>by simp [flat] at h
 | _,.cH _ _,h=>by simp [flat] at h
 | _,.kZ _ _,h=>by simp [flat] at h
theorem oR:∀ (n:Nat) (ds:List D),flats n ds=true->PyData.canLayAll0 (xg ds)=true
 | _,[],_=>by simp [xg,PyData.canLayAll0]
 | n,d :: ds,h=>by
  have h':flat n d=true/\flats n ds=true:=by simpa [flats] using h
  simp only [xg,PyData.canLayAll0,bZ n d h'.1,oR n ds h'.2,Bool.and_self]
end
mutual
theorem mK:∀ (n:Nat) (d:D),flat n d=true->(pd d).depth<=n
 | _,.non,_=>by simp [pd,PyData.depth]
 | _,.bl _,_=>by simp [pd,PyData.depth]
 | _,.int _,_=>by simp [pd,PyData.depth]
 | _,.str x,h=>by simp [pd,PyData.depth]
 | n + 1,.tup ds,h=>by simp only [pd,PyData.depth]; have:=q9 n ds (by simpa [flat] using h); lia
 | n + 1,.lst ds,h=>by simp only [pd,PyData.depth]; have:=q9 n ds (by simpa [flat] using h); lia
 | 0,.tup _,h=>by simp [flat] at h
 | 0,.lst _,h=>by simp [flat] at h
 | _,.ro _,h=>by simp [flat] at h
 | _,.loc _,h=>by simp [flat] at h
 | _,.cH _ _,h=>by simp [flat] at h
 | _,.kZ _ _,h=>by simp [flat] at h
theorem q9:∀ (n:Nat) (ds:List D),flats n ds=true->PyData.depthAll (xg ds)<=n
 | _,[],_=>by simp [xg,PyData.depthAll]
 | n,d :: ds,h=>by
  have h':flat n d=true/\flats n ds=true:=by simpa [flats] using h
  simp only [xg,PyData.depthAll]
  have h1:=mK n d h'.1
  have h2:=q9 n ds h'.2
  lia
end
theorem Bg (x y:List Nat):((⟨x.toArray⟩:Str) == ⟨y.toArray⟩)=(x == y):=by
 by_cases h:x=y
 ·subst h; simp
 ·have h1:¬ (⟨x.toArray⟩:Str)=⟨y.toArray⟩:=fun e=>h (by injection e with e; simpa using congrArg Array.toList e)
  rw [beq_eq_false_iff_ne.mpr h1,beq_eq_false_iff_ne.mpr h]
mutual
theorem mJ:∀ (n m:Nat) (d e:D),flat n d=true->flat m e=true->PyData.eqv (pd d) (pd e)=iw d e
 | _,_,.non,e,_,he=>by cases e <;> simp_all [pd,PyData.eqv,iw,flat]
 | _,_,.bl a,e,_,he=>by cases e <;> simp_all [pd,PyData.eqv,iw,flat,b2i]
 | _,_,.int i,e,_,he=>by cases e <;> simp_all [pd,PyData.eqv,iw,flat,b2i]
 | _,_,.str x,e,_,he=>by cases e <;> simp_all [pd,PyData.eqv,iw,flat,Bg]
 | n + 1,m,.tup ds,e,hd,he=>by
  cases e with
  | tup es =>
   cases m with
   | zero=>simp [flat] at he
   | succ m =>
    simp only [pd,PyData.eqv,iw]
    exact zQ n m ds es (by simpa [flat] using hd) (by simpa [flat] using he)
  | _=>simp_all [pd,PyData.eqv,iw,flat]
 | n + 1,m,.lst ds,e,hd,he=>by
  cases e with
  | lst es =>
   cases m with
   | zero=>simp [flat] at he
   | succ m =>
    simp only [pd,PyData.eqv,iw]
    exact zQ n m ds es (by simpa [flat] using hd) (by simpa [flat] using he)
  | _=>simp_all [pd,PyData.eqv,iw,flat]
 | 0,_,.tup _,_,h,_=>by simp [flat] at h
 | 0,_,.lst _,_,h,_=>by simp [flat] at h
 | _,_,.ro _,_,h,_=>by simp [flat] at h
 | _,_,.loc _,_,h,_=>by simp [flat] at h
 | _,_,.cH _ _,_,h,_=>by simp [flat] at h
 | _,_,.kZ _ _,_,h,_=>by simp [flat] at h
theorem zQ:∀ (n m:Nat) (ds es:List D),flats n ds=true->flats m es=true->PyData.eqvAll (xg ds) (xg es)=wJ ds es
 | _,_,[],es,_,_=>by cases es <;> simp [xg,PyData.eqvAll,wJ]
 | n,m,d :: ds,es,hd,he=>by
  cases es with
  | nil=>simp [xg,PyData.eqvAll,wJ]
  | cons e es =>
   have hd':flat n d=true/\flats n ds=true:=by simpa [flats] using hd
   have he':flat m e=true/\flats m es=true:=by simpa [flats] using he
   simp only [xg,PyData.eqvAll,wJ]
   rw [mJ n m d e hd'.1 he'.1,zQ n m ds es hd'.2 he'.2]
end
section
variable {X:Cx} {pins:List (Addr×Obj)} {σ:L2.St} {H:Hp} {s:Shared} {θ:List Addr} {μ:Mem}
mutual
theorem bN (I:Inv X pins σ H s):∀ (n:Nat) (d:D) (v:V) (u:Value),Rp X.K H θ μ d v->RelV v u->flat n d=true->∃ as,Reads s.heap u (pd d) as
 | _,.non,v,u,r,ru,_=>by cases m7 r; cases ru; exact ⟨_,by unfold pd; exact .none⟩
 | _,.bl b,v,u,r,ru,_=>by cases dh r; cases ru; exact ⟨_,by unfold pd; exact .bool b⟩
 | _,.int i,v,u,r,ru,_=>by cases aF r; obtain ⟨t,rfl⟩:=ru; exact ⟨_,by unfold pd; exact .int i t⟩
 | _,.str x,v,u,r,ru,_=>by cases (bG r).1; obtain ⟨t,rfl⟩:=ru; exact ⟨_,by unfold pd; exact .str _ t⟩
 | n + 1,.tup ds,v,u,r,ru,h=>by
  obtain ⟨a,xs,rfl,hH,_,rs⟩:=bR r
  cases ru
  obtain ⟨its,rv,⟨o,ho,hc,k,hd⟩,_⟩:=I.tuple (qu.of hH)
  obtain ⟨as,ra⟩:=lU I n ds xs its rs rv (by simpa [flat] using h)
  exact ⟨as,by unfold pd; exact .tuple ho hc hd (by simpa using ra)⟩
 | n + 1,.lst ds,v,u,r,ru,h=>by
  obtain ⟨a,xs,rfl,hH,_,rs⟩:=fG r
  cases ru
  obtain ⟨its,rv,⟨o,k,ho,hc,_,hd⟩,_⟩:=I.list (lg.of hH)
  obtain ⟨as,ra⟩:=lU I n ds xs its rs rv (by simpa [flat] using h)
  exact ⟨a :: as,by unfold pd; exact .list ho hc hd (by simpa using ra)⟩
 | 0,.tup _,_,_,_,_,h=>by simp [flat] at h
 | 0,.lst _,_,_,_,_,h=>by simp [flat] at h
 | _,.ro _,_,_,_,_,h=>by simp [flat] at h
 | _,.loc _,_,_,_,_,h=>by simp [flat] at h
 | _,.cH _ _,_,_,_,_,h=>by simp [flat] at h
 | _,.kZ _ _,_,_,_,_,h=>by simp [flat] at h
theorem lU (I:Inv X pins σ H s):∀ (n:Nat) (ds:List D) (vs:List V) (us:List Value),gH X.K H θ μ ds vs->Vals vs us->flats n ds=true->∃ as,ReadsAll s.heap us (xg ds) as
 | _,[],vs,us,r,rv,_=>by cases r.nil_inv; cases rv; exact ⟨_,by unfold xg; exact .nil⟩
 | n,d :: ds,vs,us,r,rv,h=>by
  obtain ⟨v,vr,rfl,h1,h2⟩:=r.cons_inv
  have h':flat n d=true/\flats n ds=true:=by simpa [flats] using h
  cases rv with
  | cons ru rr =>
   obtain ⟨as,ra⟩:=bN I n d v _ h1 ru h'.1
   obtain ⟨bs,rb⟩:=lU I n ds vr _ h2 rr h'.2
   exact ⟨as ++ bs,by unfold xg; exact .cons ra rb⟩
end
end
theorem sZ:∀ (x y:List Nat),iQ x y=decide (x < y)
 | [],[]=>by simp [iQ]
 | [],_ :: _=>by simp [iQ]
 | _ :: _,[]=>by simp [iQ]
 | a :: x,b :: y=>by
  unfold iQ
  by_cases h:a=b
  ·subst h
   rw [if_pos rfl,sZ x y]
   simp [List.cons_lt_cons_iff]
  ·rw [if_neg h]
   simp [List.cons_lt_cons_iff,h]
noncomputable def SV (u:Value) (d:D):Prop:=(∃ i t,u = .int i t/\d = .int i)∨∃ x t,u = .str ⟨x.toArray⟩ t/\d = .str x
noncomputable abbrev Ye:List Value->List D->Prop:=Paired SV
theorem Y4 {A:Around} {s:Shared} {u v:Value} {d e:D} (h:SV u d) (k:SV v e):SeqAt.EqAt A s u v (iw d e):=by
 rcases h with ⟨i,t,rfl,rfl⟩ | ⟨x,t,rfl,rfl⟩
 ·rcases k with ⟨j,t',rfl,rfl⟩ | ⟨y,t',rfl,rfl⟩
  ·simp only [iw]; exact SeqAt.EqAt.int_int i t j t'
  ·simp only [iw]; exact SeqAt.EqAt.int_str i t _ t'
 ·rcases k with ⟨j,t',rfl,rfl⟩ | ⟨y,t',rfl,rfl⟩
  ·simp only [iw]; exact SeqAt.EqAt.str_int _ t j t'
  ·simp only [iw]; rw [<- Bg]; exact SeqAt.EqAt.str_str _ t _ t'
theorem Y0 {A:Around} {s:Shared} {u v:Value} {d e:D} {b:Bool} (h:SV u d) (k:SV v e) (hb:vR d e=some b) (prog:Program) (w:World) (E:Value->Shared->Prop) (Q:Value->Shared->Prop) (q:Q (.bool b) s) :
  wpAny (model prog w) A (richCompare .Lt u v) Q E s:=by
 rcases h with ⟨i,t,rfl,rfl⟩ | ⟨x,t,rfl,rfl⟩
 ·rcases k with ⟨j,t',rfl,rfl⟩ | ⟨y,t',rfl,rfl⟩
  ·simp only [vR,Option.some.injEq] at hb
   subst hb
   exact (PyProof.Rows.lt_int q:wpAny (model prog w) A (compareOp .Lt (.int i t) (.int j t')) Q E s)
  ·simp [vR] at hb
 ·rcases k with ⟨j,t',rfl,rfl⟩ | ⟨y,t',rfl,rfl⟩
  ·simp [vR] at hb
  ·simp only [vR,Option.some.injEq] at hb
   subst hb
   rw [sZ] at q
   exact (PySem.P.lt_str (by simpa using q):wpAny (model prog w) A (compareOp .Lt (.str ⟨x.toArray⟩ t) (.str ⟨y.toArray⟩ t')) Q E s)
section
open PySem.SeqAt
open PySem.AutoSeq1 (wpAny_loadPart')
open PySem.MeetsSeq PySem.MeetsSeq2 PySem.MeetsSeq3
theorem Jq (d e:D) (ds es:List D):uQ (d :: ds) (e :: es)=if iw d e then uQ ds es else vR d e:=by rw [uQ]
theorem Ba (l b:Addr) (items items2:Array Value) (n n2:Nat) (dd dd2:Option Addr) (sl sl2:Array (Option Value)) (ns ms:List D) (r:Bool) (hi:Ye items.toList ns) (hj:Ye items2.toList ms) (hr:uQ ns ms=some r) :
  Meets (Builtin.«tuple.__lt__» ⟨[.ref l,.ref b],[]⟩)
   (fun _ R s=>s.heap.get? l=some { cls:=.type "tuple",dict:=dd,data:=.seq items n,slots:=sl }/\s.heap.get? b=some { cls:=.type "tuple",dict:=dd2,data:=.seq items2 n2,slots:=sl2 } /\
    R (.ok (.ret (.bool r))) s) :=
 .of_wp fun prog w A R s h=>by
  obtain ⟨hp,g,d,tk,os⟩:=s; obtain ⟨hl,hb,h⟩:=h
  have f2:=AutoSeq1.sub_tuple_tuple
  have z1:items.size=ns.length:=by rw [<- Paired.length hi]; simp
  have z2:items2.size=ms.length:=by rw [<- Paired.length hj]; simp
  wp_walk using wpAny_loadPart' hl,wpAny_loadPart' hb,wpAny_forIn_list _ (fun rest b s'=>b.1=none/\s'=⟨hp,g,d,tk,os⟩/\∃ (vs ws:List Value) (ns' Zw:List D),rest=vs.zip ws /\
   Ye vs ns'/\Ye ws Zw/\ns'.length + items2.size=Zw.length + items.size/\uQ ns' Zw=some r) _
  case turn =>
   rintro ⟨y,x⟩ rest b s' ⟨hb',rfl,vs,ws,ns',Zw,hz,hvi,hwi,hlen,hR⟩
   cases hvi with
   | nil=>rw [List.zip_nil_left] at hz; cases hz
   | @cons u du vs' adk hu abI =>
    cases hwi with
    | nil=>rw [List.zip_nil_right] at hz; cases hz
    | @cons v dv ws' adp hv abH =>
     rw [List.zip_cons_cons] at hz
     injection hz with hyx hrest
     injection hyx with hy hx
     subst hy hx
     rw [Jq] at hR
     simp only [List.length_cons] at hlen
     have he:=Y4 (A:=A.in1) (s:=⟨hp,g,d,tk,os⟩) hu hv
     refine wpAny_bind (he prog w _ _ ?_)
     cases e:iw du dv with
     | true =>
      rw [e,if_pos rfl] at hR
      wp_walk
      exact ⟨rfl,rfl,_,_,_,_,hrest,abI,abH,by lia,hR⟩
     | false =>
      rw [e,if_neg Bool.false_ne_true] at hR
      have hri:=Y0 (A:=A.in1) (s:=⟨hp,g,d,tk,os⟩) hu hv hR prog w
      wp_walk using hri
      exact ⟨_,rfl,by simpa using h⟩
  case fin =>
   rintro ⟨b1,b2⟩ s' ⟨hb',rfl,vs,ws,ns',Zw,hz,hvi,hwi,hlen,hR⟩
   simp only at hb'
   subst hb'
   have hv:r=decide (items.size < items2.size):=by
    cases hvi with
    | nil =>
     cases hwi with
     | nil =>
      simp only [List.length_nil] at hlen
      simp [uQ] at hR
      rw [hR]
      exact (decide_eq_false (by lia)).symm
     | cons hu hw =>
      simp only [List.length_nil,List.length_cons] at hlen
      simp [uQ] at hR
      rw [hR]
      exact (decide_eq_true (by lia)).symm
    | cons hu hv =>
     cases hwi with
     | nil =>
      simp only [List.length_nil,List.length_cons] at hlen
      simp [uQ] at hR
      rw [hR]
      exact (decide_eq_false (by lia)).symm
     | cons hu' hw =>
      rw [List.zip_cons_cons] at hz
      cases hz
   rw [hv] at h
   wp_walk
   exact ⟨_,rfl,by simpa [Builtin.Tuple.tupleCompareSizes] using h⟩
  case h =>
   exact ⟨rfl,rfl,items.toList,items2.toList,ns,ms,rfl,hi,hj,by lia,hr⟩
end
theorem Nr {prog:Program} {w:World} {A:Around} {E:Value->Shared->Prop} {s:Shared} {l b:Addr} {items items2:Array Value} {ns ms:List D} {r:Bool} {Q:Value->Shared->Prop} (hl:IsTup s.heap l items) (hb:IsTup s.heap b items2) (hi:Ye items.toList ns) (hj:Ye items2.toList ms)
  (hr:uQ ns ms=some r) (hu:A.units < cLine) (h:Q (.bool r) s):wpAny (model prog w) A (compareOp .Lt (.ref l) (.ref b)) Q E s:=by
 obtain ⟨⟨cls,dd,data,sl⟩,ho,hc,n,hd⟩:=id hl
 obtain ⟨⟨cls2,dd2,data2,sl2⟩,ho2,hc2,n2,hd2⟩:=id hb
 simp only at hc hd hc2 hd2
 subst hc hd hc2 hd2
 exact richCompare_meets_room (op:=.Lt) ⟨_,ho,rfl⟩ ⟨_,ho2,rfl⟩ PySem.F.slot_tuple_lt PySem.F.entry_tuple_lt (PySem.F.args_tuple_lt_2 _ _) (Ba l b items items2 n n2 dd dd2 sl sl2 ns ms r hi hj hr)
  ⟨ho,ho2,show Value.bool r≠Value.notImplemented/\Q (.bool r) s from ⟨(fun x=>nomatch x),h⟩⟩ hu
end DW
end
section
namespace DW
open PySem PySem.Spec PyProof.Rows L2
theorem fO {a b:aC} (h:keyOf a=keyOf b):a=b:=by
 cases a with
 | inl i=>cases b with
  | inl j=>simp only [keyOf,Sum.inl.injEq] at h; rw [h]
  | inr y=>cases h
 | inr x=>cases b with
  | inl j=>cases h
  | inr y =>
   simp only [keyOf,Sum.inr.injEq,Str.mk.injEq] at h
   have:x=y:=by simpa using congrArg Array.toList h
   rw [this]
theorem dg {a b:List aC} (h:a.map keyOf=b.map keyOf):a=b:=List.map_inj_right (fun _ _=>fO) |>.mp h
section
variable {κ κ':Type} [DecidableEq κ] [DecidableEq κ']
theorem mq (f:κ->κ') (inj:∀ a b,f a=f b->a=b) {ks:List κ} {kvs:List (κ'×V)} {k:κ} (h1:kvs.map (·.1)=ks.map f):(kvs.any fun kv=>decide (kv.1=f k))=true<->k∈ks:=by
 have e:(kvs.any fun kv=>decide (kv.1=f k))=(kvs.map (·.1)).any fun q=>decide (q=f k):=by rw [List.any_map]; rfl
 rw [e,h1,List.any_eq_true]
 constructor
 ·rintro ⟨q,hq,e⟩
  obtain ⟨k',hk,rfl⟩:=List.mem_map.mp hq
  have:=inj _ _ (of_decide_eq_true e)
  subst this
  exact hk
 ·intro hk
  exact ⟨f k,List.mem_map.mpr ⟨k,hk,rfl⟩,by simp⟩
end
section
variable {K:PySem.W.Frag} {H:Hp} {θ:List Addr} {μ:Mem}
theorem j6 {d:D} {k:aC} {v:V} (h:je d=some k) (r:Rp K H θ μ d v):v=kV (keyOf k):=by
 cases d with
 | int i=>simp only [je,Option.some.injEq] at h; subst h; exact aF r
 | str x=>simp only [je,Option.some.injEq] at h; subst h; exact (bG r).1
 | _=>simp [je] at h
theorem iR:∀ {ds:List D} {ks:List aC} {vs:List V},fB ds=some ks->gH K H θ μ ds vs->vs=(ks.map keyOf).map kV
 | [],ks,vs,h,r=>by simp only [fB,Option.some.injEq] at h; subst h; rw [r.nil_inv]; rfl
 | d :: ds,ks,vs,h,r=>by
  obtain ⟨v,vr,rfl,r1,r2⟩:=r.cons_inv
  simp only [fB] at h
  split at h
  ·rename_i k hk
   cases e:fB ds with
   | none=>rw [e] at h; cases h
   | some ks' =>
    rw [e] at h
    simp only [Option.map_some,Option.some.injEq] at h
    subst h
    rw [List.map_cons,List.map_cons,j6 hk r1,iR e r2]
  ·cases h
theorem in_dict {neg:Bool} {d e:D} {x y:V} {Qd:QD} (wk:cF K H θ μ) (rd:Rp K H θ μ d x) (re:Rp K H θ μ e y) (h:Ao neg d e μ Qd):∃ a o,y = .ref a/\lH H a x o/\Qd (.bl (neg != o.isSome)) μ:=by
 unfold Ao at h
 split at h
 ·rename_i n
  obtain ⟨a,rfl,ha⟩:=aO re
  split at h
  ·rename_i ks ds hn
   obtain ⟨kvs,e1,e2,e3⟩:=wk.cell n _ a hn ha
   split at h
   ·rename_i k hk
    refine ⟨a,ju kvs (keyOf k),rfl,by rw [j6 hk rd]; exact lH.k e1,?_⟩
    have z:(ju kvs (keyOf k)).isSome=uY ks k:=by
     rw [<- jK,Bool.eq_iff_iff,mq keyOf (fun _ _=>fO) e2,mF]
    rw [z]; exact h
   ·exact h.elim
  ·rename_i ks ds hn
   obtain ⟨kvs,e1,e2,e3⟩:=wk.cell n _ a hn ha
   split at h
   ·rename_i es
    split at h
    ·rename_i k hk
     obtain ⟨b,xs,rfl,hb,_,rs⟩:=bR rd
     rw [iR hk rs] at hb
     refine ⟨a,ju kvs (k.map keyOf),rfl,lH.t e1 hb,?_⟩
     have z:(ju kvs (k.map keyOf)).isSome=uY ks k:=by
      rw [<- jK,Bool.eq_iff_iff,mq (fun l:List aC=>l.map keyOf) (fun _ _=>dg) e2,mF]
     rw [z]; exact h
    ·exact h.elim
   ·exact h.elim
  ·exact h.elim
 ·exact h.elim
theorem len_dict {d:D} {v:V} {Qd:QD} (wk:cF K H θ μ) (rd:Rp K H θ μ d v) (h:Gx d μ Qd):∃ a,v = .ref a/\((∃ kvs,H a=some (.dK kvs)/\Qd (.int kvs.length) μ)∨∃ kvs,Rd H a (.dT kvs)/\Qd (.int kvs.length) μ):=by
 unfold Gx at h
 split at h
 ·rename_i n
  obtain ⟨a,rfl,ha⟩:=aO rd
  split at h
  ·rename_i ks ds hn
   obtain ⟨kvs,e1,e2,e3⟩:=wk.cell n _ a hn ha
   have l:kvs.length=ks.length:=by have:=congrArg List.length e2; simpa using this
   exact ⟨a,rfl,.inl ⟨kvs,e1,by rw [l]; exact h⟩⟩
  ·rename_i ks ds hn
   obtain ⟨kvs,e1,e2,e3⟩:=wk.cell n _ a hn ha
   have l:kvs.length=ks.length:=by have:=congrArg List.length e2; simpa using this
   exact ⟨a,rfl,.inr ⟨kvs,.inl e1,by rw [l]; exact h⟩⟩
  ·rename_i o ks ds hn
   obtain ⟨kvs,e1,e2,e3⟩:=wk.cell n _ a hn ha
   have l:kvs.length=ks.length:=by have:=congrArg List.length e2; simpa using this
   exact ⟨a,rfl,.inr ⟨kvs,.inr ⟨o,e1⟩,by rw [l]; exact h⟩⟩
  ·exact h.elim
 ·exact h.elim
end
section
variable {K:PySem.W.Frag} {H:Hp} {θ:List Addr} {μ:Mem} {κ κ':Type} [DecidableEq κ] [DecidableEq κ']
theorem dH (f:κ->κ') (inj:∀ a b,f a=f b->a=b):∀ (ks:List κ) (ds:List D) (kvs:List (κ'×V)) (k:κ) (d:D),kvs.map (·.1)=ks.map f->gH K H θ μ ds (kvs.map (·.2))->aH ks ds k=some d->∃ v,ju kvs (f k)=some v/\Rp K H θ μ d v
 | [],ds,kvs,k,d,_,_,h=>by simp [aH] at h
 | k' :: ks,[],kvs,k,d,_,_,h=>by simp [aH] at h
 | k' :: ks,d' :: ds,[],k,d,h1,_,_=>by simp at h1
 | k' :: ks,d' :: ds,(q,v) :: kvs,k,d,h1,h2,h=>by
  simp only [List.map_cons,List.cons.injEq] at h1
  obtain ⟨rfl,h1⟩:=h1
  rw [List.map_cons] at h2
  obtain ⟨v',r,e,r1,r2⟩:=h2.cons_inv
  cases e
  simp only [aH] at h
  by_cases c:k'=k
  ·rw [if_pos c] at h; cases h
   subst c
   exact ⟨v,oV rfl,r1⟩
  ·rw [if_neg c] at h
   obtain ⟨w,w1,w2⟩:=dH f inj ks ds kvs k d h1 r2 h
   exact ⟨w,by rw [oW (fun e=>c (inj _ _ e))]; exact w1,w2⟩
end
end DW
end
section
namespace DW
open PySem PySem.Spec PyProof.Rows L2
theorem o9:isSubtype (.type "list") (.type "dict")=pure false:=by rw [isSubtype_type]; kernel_rfl
theorem yL:isSubtype (.type "dict") (.type "list")=pure false:=by rw [isSubtype_type]; kernel_rfl
theorem slot_dict_ne:Slot "dict" "__ne__" "dict.__ne__" :=
 .of (owner:="dict") (n:="__ne__") (by rw [typeLookup_type,builtinLookup_eq_fast]; kernel_rfl) (by decide +kernel) (by decide +kernel) (by decide +kernel)
  (by first | exact .inl (by decide +kernel) | exact .inr (by decide +kernel)) (by rw [isSubtype_type]; kernel_rfl)
theorem entry_dict_ne:entryFor table "dict.__ne__" = some Builtin.«dict.__ne__»:=entryFor_of_tree (by kernel_rfl)
theorem Aa (a b:Value):argsOk "dict.__ne__" ⟨[a,b],[]⟩:=by unfold argsOk; kernel_rfl
theorem qZ (l b:Addr) (ol ob:Obj) (hc1:ol.cls = .type "dict") (hc2:ob.cls = .type "list") :
  Meets (Builtin.«dict.__ne__» ⟨[.ref l,.ref b],[]⟩) (fun _ R s=>s.heap.get? l=some ol/\s.heap.get? b=some ob/\R (.ok (.ret .notImplemented)) s) :=
 .of_wp fun prog w A R s h=>by
  obtain ⟨hp,g,d,tk,os⟩:=s
  obtain ⟨oc,od,odt,osl⟩:=ol
  obtain ⟨pc,pd,pdt,psl⟩:=ob
  cases hc1
  cases hc2
  obtain ⟨hl,hb,h⟩:=h
  have f1:=o9
  wp_walk using wpAny_loadPart' hl,wpAny_loadPart' hb
  exact ⟨_,rfl,h⟩
theorem rT (l b:Addr) (ol ob:Obj) (hc1:ol.cls = .type "list") (hc2:ob.cls = .type "dict") :
  Meets (Builtin.«list.__ne__» ⟨[.ref l,.ref b],[]⟩) (fun _ R s=>s.heap.get? l=some ol/\s.heap.get? b=some ob/\R (.ok (.ret .notImplemented)) s) :=
 .of_wp fun prog w A R s h=>by
  obtain ⟨hp,g,d,tk,os⟩:=s
  obtain ⟨oc,od,odt,osl⟩:=ol
  obtain ⟨pc,pd,pdt,psl⟩:=ob
  cases hc1
  cases hc2
  obtain ⟨hl,hb,h⟩:=h
  have f1:=yL
  wp_walk using wpAny_loadPart' hl,wpAny_loadPart' hb
  exact ⟨_,rfl,h⟩
theorem Dh {prog:Program} {w:World} {A:Around} {E:Value->Shared->Prop} {s:Shared} {l b:Addr} {ol ob:Obj} {Q:Value->Shared->Prop} (h1:s.heap.get? l=some ol) (h2:s.heap.get? b=some ob) (c1:ol.cls = .type "dict") (c2:ob.cls = .type "list") (hu:A.units < cLine) (q:Q (.bool true) s) :
  wpAny (model prog w) A (richCompare .NotEq (.ref l) (.ref b)) Q E s:=by
 have ne:l≠b:=fun e=>by subst e; rw [h1] at h2; cases h2; rw [c1] at c2; exact absurd c2 (by simp)
 have t1:s.TypeIs (.ref l) "dict":=⟨_,h1,c1⟩
 have t2:s.TypeIs (.ref b) "list":=⟨_,h2,c2⟩
 exact SeqAt.rc_ne_decline_or (k:=false) t1 t2 (by decide) o9 slot_dict_ne F.slot_list_ne_refl
  (fun _ z=>call_meets slot_dict_ne t1 entry_dict_ne (Aa _ _) (qZ l b ol ob c1 c2) ⟨h1,h2,z⟩)
  (fun _ z=>call_meets F.slot_list_ne_refl t2 F.entry_list_ne (F.args_list_ne_2 _ _) (rT b l ob ol c2 c1) ⟨h2,h1,z⟩)
  (fun _ z=>wpAny_isSame_ref_other ne h1 h2 (by rw [c1]; simp) z) (.inr hu) q
end DW
end
section
namespace DW
open PySem PySem.Spec PyProof.Rows L2
section
variable {X:Cx}
theorem YZ {H:Hp} {θ:List Addr} {μ:Mem} {d e:D} {v:V} {u:Value} {b:Bool} (r:Rp X.K H θ μ d v) (ru:RelV v u) (h:(∃ i,d = .int i)∨∃ x,d = .str x):SV u d:=by
 rcases h with ⟨i,rfl⟩ | ⟨x,rfl⟩
 ·cases aF r; obtain ⟨t,rfl⟩:=ru; exact .inl ⟨i,t,rfl,rfl⟩
 ·cases (bG r).1; obtain ⟨t,rfl⟩:=ru; exact .inr ⟨x,t,rfl,rfl⟩
theorem Jc {d:D} (h:Y8 d=true):(∃ i,d = .int i)∨∃ x,d = .str x:=by
 cases d <;> simp [Y8] at h
 ·exact .inl ⟨_,rfl⟩
 ·exact .inr ⟨_,rfl⟩
theorem En {H:Hp} {θ:List Addr} {μ:Mem}:∀ {ds:List D} {vs:List V} {us:List Value},gH X.K H θ μ ds vs->Vals vs us->ds.all Y8=true->Ye us ds
 | [],vs,us,r,rv,_=>by cases r.nil_inv; cases rv; exact .nil
 | d :: ds,vs,us,r,rv,h=>by
  obtain ⟨v,vr,rfl,h1,h2⟩:=r.cons_inv
  simp only [List.all_cons,Bool.and_eq_true] at h
  cases rv with
  | cons ru rr=>exact .cons (YZ (e:=.non) (b:=true) h1 ru (Jc h.1)) (En h2 rr h.2)
theorem Zt {K:PySem.W.Frag} {H:Hp} {θ:List Addr} {μ:Mem} {d:D} {x:V} (r:Rp K H θ μ d x):decide (x = .non)=Cr d:=by
 cases d with
 | non=>cases m7 r; rfl
 | bl b=>cases dh r; rfl
 | int b=>cases aF r; rfl
 | str b=>cases (bG r).1; rfl
 | tup ds=>obtain ⟨a,xs,rfl,_⟩:=bR r; rfl
 | lst ds=>obtain ⟨a,xs,rfl,_⟩:=fG r; rfl
 | ro ds=>obtain ⟨a,xs,rfl,_⟩:=zJ r; rfl
 | loc n=>obtain ⟨a,rfl,_⟩:=aO r; rfl
 | cH ks ds=>obtain ⟨a,xs,rfl,_⟩:=zK r; rfl
 | kZ ks ds=>obtain ⟨a,o,xs,rfl,_⟩:=tB r; rfl
noncomputable def pR (its:List Value) (ds:List D) (x:D) (y:Value):Bool:=open Classical in if h:∃ j:Nat,its[j]? = some y then (match ds[h.choose]? with | some d=>iw d x | none=>false) else false
theorem Cy {pins:List (Addr×Obj)} {σ:L2.St} {H:Hp} {s:Shared} {θ:List Addr} {μ:Mem} {d e:D} {x y:V} {v u:Value} {ds:List D} (I:Inv X pins σ H s) (wk:cF X.K H θ μ) (re:Rp X.K H θ μ e y) (ry:RelV y u) (hq:aG μ e=some ds)
  (f1:flats 60 ds=true) (f2:flat 60 d=true) (rd:Rp X.K H θ μ d x) (rx:RelV x v) (hu:X.A.units + 64 < cLine) :
  ∃ (its:List Value) (a:Addr),u = .ref a/\(s.heap.IsList a its.toArray∨s.heap.IsTuple a its.toArray)/\(∀ w∈its.toArray,SeqAt.EqAt X.A.in1 s w v (pR its ds d w))/\its.toArray.any (pR its ds d)=ds.any fun d'=>iw d' d:=by
 obtain ⟨a,xs,rfl,hs,rs⟩:=gk wk re hq
 cases ry
 obtain ⟨its,rv,hl⟩:∃ its:List Value,Vals xs its/\(s.heap.IsList a its.toArray∨s.heap.IsTuple a its.toArray):=by
  rcases hs with h | h
  ·obtain ⟨its,rv,p,_⟩:=I.list h
   exact ⟨its,rv,.inl p.isList⟩
  ·obtain ⟨its,rv,p,_⟩:=I.tuple h
   exact ⟨its,rv,.inr p⟩
 obtain ⟨as0,ra0⟩:=bN I 60 d x v rd rx f2
 have fl:∀ (n:Nat) (l:List D),flats n l=true->∀ (j:Nat) (e:D),l[j]? = some e->flat n e=true:=by
  intro n l
  induction l with
  | nil=>intro _ j e h; simp at h
  | cons c l ih =>
   intro h j e he
   have h':flat n c=true/\flats n l=true:=by simpa [flats] using h
   cases j with
   | zero=>simp at he; subst he; exact h'.1
   | succ j=>exact ih h'.2 j e (by simpa using he)
 have at_:∀ (j:Nat) (w:Value),its[j]? = some w->∃ (e:D) (as:List Addr),ds[j]? = some e/\Reads s.heap w (pd e) as/\flat 60 e=true:=by
  intro j w hw
  have hj:j < its.length:=(List.getElem?_eq_some_iff.mp hw).1
  have hj2:j < ds.length:=by rw [rs.length,rv.length]; exact hj
  have he:ds[j]? = some ds[j]:=List.getElem?_eq_getElem hj2
  obtain ⟨z,z1,z2⟩:=rs.get he
  obtain ⟨w',w1,w2⟩:=rv.get z1
  rw [hw] at w1; cases w1
  obtain ⟨as,ra⟩:=bN I 60 ds[j] z w z2 w2 (fl 60 ds f1 j _ he)
  exact ⟨ds[j],as,he,ra,fl 60 ds f1 j _ he⟩
 have val:∀ (j:Nat) (w:Value) (e:D),its[j]? = some w->ds[j]? = some e->pR its ds d w=iw e d:=by
  intro j w e hw he
  have hx:∃ j:Nat,its[j]? = some w:=⟨j,hw⟩
  unfold pR
  rw [dif_pos hx]
  obtain ⟨e1,as1,g1,g2,g3⟩:=at_ _ w hx.choose_spec
  obtain ⟨e2,as2,k1,k2,k3⟩:=at_ j w hw
  rw [he] at k1; cases k1
  rw [g1]
  have un:=SeqAt.Reads.unique (pd e1) (pd e) _ _ _ (bZ _ _ g3) g2 k2
  show iw e1 d=iw e d
  rw [<- mJ 60 60 e1 d g3 f2,<- mJ 60 60 e d k3 f2,un]
 refine ⟨its,a,rfl,hl,fun w hw=>?_,?_⟩
 ·obtain ⟨j,hj⟩:=List.getElem?_of_mem (show w∈its by simpa using hw)
  obtain ⟨e,as,k1,k2,k3⟩:=at_ j w hj
  rw [val j w e hj k1,<- mJ 60 60 e d k3 f2]
  have hd:=mK _ _ f2
  exact SeqAt.eqAt_reads (pd e) (pd d) X.A.in1 s w v as as0 k2 ra0 (bZ _ _ k3) (bZ _ _ f2) (by show X.A.units + 1 + _ < cLine; lia)
 ·have key:∀ (js:List Nat),(∀ j∈js,j < its.length)->(js.any fun j=>(its[j]?.map (pR its ds d)).getD false)=js.any fun j=>(ds[j]?.map fun d'=>iw d' d).getD false:=by
   intro js
   induction js with
   | nil=>intro _; rfl
   | cons j js ih =>
    intro h
    have hj:=h j (by simp)
    have hj2:j < ds.length:=by rw [rs.length,rv.length]; exact hj
    rw [List.any_cons,List.any_cons,ih fun i hi=>h i (by simp [hi])]
    congr 1
    rw [List.getElem?_eq_getElem hj,List.getElem?_eq_getElem hj2]
    exact val j _ _ (List.getElem?_eq_getElem hj) (List.getElem?_eq_getElem hj2)
  have hlen:its.length=ds.length:=by rw [rs.length,rv.length]
  have all:∀ {α:Type} (l:List α) (p:α->Bool),l.any p=(List.range l.length).any fun j=>(l[j]?.map p).getD false:=by
   intro α l p
   rw [Bool.eq_iff_iff,List.any_eq_true,List.any_eq_true]
   constructor
   ·rintro ⟨z,hz,hp⟩
    obtain ⟨j,hj⟩:=List.getElem?_of_mem hz
    have:=(List.getElem?_eq_some_iff.mp hj).1
    exact ⟨j,by simpa using this,by rw [hj]; simpa using hp⟩
   ·rintro ⟨j,hj,hp⟩
    have hj':j < l.length:=by simpa using hj
    rw [List.getElem?_eq_getElem hj'] at hp
    exact ⟨l[j],List.getElem_mem hj',by simpa using hp⟩
  rw [List.any_toArray,all its,all ds,hlen]
  exact key _ fun j hj=>by rw [hlen]; simpa using hj
theorem oN {k:Nat} (hr:bU k X.A) (op:CmpOp):lG X (compareOp op) (uT X.K (cM op)):=by
 intro pins s σ H x y v u Q I rx ry h
 obtain ⟨d,e,θ,μ,Qd,wk,rd,re,hw,f⟩:=h
 have hu:X.A.units + 64 < cLine:=hr.units
 have bl:∀ {b:Bool} {s':Shared},Inv X pins σ H s'->Qd (.bl b) μ->EP X pins σ Q (.bool b) s':=fun I' q=>⟨.bl _,H,I',rfl,f.at wk cZ q⟩
 cases op with
 | Eq =>
  obtain ⟨f1,f2,q⟩:=hw
  obtain ⟨as,ra⟩:=bN I 60 d x v rd rx f1
  obtain ⟨bs,rb⟩:=bN I 60 e y u re ry f2
  refine SeqAt.compareEq_reads ra rb (bZ _ _ f1) (bZ _ _ f2) ?_ ?_
  ·have:=mK _ _ f1
   lia
  ·rw [mJ _ _ _ _ f1 f2]; exact bl I q
 | NotEq =>
  by_cases hd:∃ n,d = .loc n
  ·obtain ⟨n,rfl⟩:=hd
   have hw:Vo n e μ Qd:=hw
   unfold Vo at hw
   split at hw
   ·rename_i ds hn
    split at hw
    ·obtain ⟨a,rfl,ha⟩:=aO rd
     cases rx
     obtain ⟨xs,hx,rs⟩:=wk.list hn ha
     obtain ⟨its,vi,pl,hz⟩:=I.list (lg.of hx)
     obtain ⟨b,ys,rfl,hy,_,r2⟩:=fG re
     cases ry
     cases r2.nil_inv
     obtain ⟨its2,vi2,pl2,hz2⟩:=I.list (lg.of hy)
     have e2:its2=[]:=List.length_eq_zero_iff.mp vi2.length.symm
     subst e2
     have l1:its.length=ds.length:=by rw [<- vi.length,<- rs.length]
     cases ds with
     | nil =>
      have e1:its=[]:=List.length_eq_zero_iff.mp (by rw [l1]; rfl)
      subst e1
      exact SeqAt.RcNeAt.lists (e:=fun _=>true) pl.isList pl2.isList rfl (by lia) (fun j h1 h2=>absurd h1 (by simp)) _ _ _ _ (bl I hw)
     | cons d0 ds =>
      exact SeqAt.RcNeAt.lists_lengths pl.isList pl2.isList (by simp at l1 ⊢; rw [<- List.length_eq_zero_iff,l1]; simp) (by lia) _ _ _ _ (bl I hw)
    ·exact hw.elim
   ·exact hw.elim
  have hw:flat 60 d=true/\flat 60 e=true/\Qd (.bl (!iw d e)) μ:=by
   cases d with
   | loc n=>exact absurd ⟨n,rfl⟩ hd
   | _=>exact hw
  obtain ⟨f1,f2,q⟩:=hw
  obtain ⟨as,ra⟩:=bN I 60 d x v rd rx f1
  obtain ⟨bs,rb⟩:=bN I 60 e y u re ry f2
  refine SeqAt.compareNe_reads ra rb (bZ _ _ f1) (bZ _ _ f2) ?_ ?_
  ·have:=mK _ _ f1
   lia
  ·rw [mJ _ _ _ _ f1 f2]; exact bl I q
 | Lt =>
  simp only [cM] at hw
  cases d with
  | int i =>
   cases e with
   | int j=>simp only [vR] at hw; exact Zj pins s σ H x y v u Q I rx ry ⟨i,j,aF rd,aF re,f.at wk cZ hw⟩
   | _=>simp [vR] at hw
  | str a =>
   cases e with
   | str b =>
    simp only [vR] at hw
    refine Jm pins s σ H x y v u Q I rx ry ⟨_,_,(bG rd).1,(bG re).1,f.at wk cZ ?_⟩
    rw [sZ] at hw
    simpa using hw
   | _=>simp [vR] at hw
  | tup ds =>
   cases e with
   | tup es =>
    simp only [vR] at hw
    split at hw
    ·rename_i r hl
     split at hl
     ·rename_i hsc
      rw [Bool.and_eq_true] at hsc
      obtain ⟨a,xs,rfl,h1,_,r1⟩:=bR rd
      obtain ⟨b,ys,rfl,h2,_,r2⟩:=bR re
      cases rx; cases ry
      obtain ⟨its,rv1,p1,_⟩:=I.tuple (qu.of h1)
      obtain ⟨jts,rv2,p2,_⟩:=I.tuple (qu.of h2)
      exact Nr p1 p2 (by simpa using En r1 rv1 hsc.1) (by simpa using En r2 rv2 hsc.2) hl (by lia) (bl I hw)
     ·cases hl
    ·exact hw.elim
   | _=>simp [vR] at hw
  | _=>simp [vR] at hw
 | LtE =>
  cases d with
  | int i =>
   cases e with
   | int j=>exact Zk pins s σ H x y v u Q I rx ry ⟨i,j,aF rd,aF re,f.at wk cZ hw⟩
   | _=>exact hw.elim
  | str a =>
   cases e with
   | str b =>
    have hw:Qd (.bl (!iQ b a)) μ:=hw
    cases (bG rd).1
    cases (bG re).1
    obtain ⟨t,rfl⟩:=rx
    obtain ⟨t',rfl⟩:=ry
    refine PySem.P.le_str ?_
    rw [sZ] at hw
    refine bl I ?_
    simpa using hw
   | _=>exact hw.elim
  | _=>exact hw.elim
 | Gt =>
  cases d with
  | int i =>
   cases e with
   | int j=>exact Zm pins s σ H x y v u Q I rx ry ⟨i,j,aF rd,aF re,f.at wk cZ hw⟩
   | _=>exact hw.elim
  | _=>exact hw.elim
 | GtE =>
  cases d with
  | int i =>
   cases e with
   | int j=>exact Zn pins s σ H x y v u Q I rx ry ⟨i,j,aF rd,aF re,f.at wk cZ hw⟩
   | _=>exact hw.elim
  | _=>exact hw.elim
 | Is =>
  cases e with
  | non =>
   refine WK pins s σ H x y v u Q I rx ry ⟨m7 re,f.at wk cZ ?_⟩
   have hw:Qd (.bl (Cr d)) μ:=hw
   rw [Zt rd]; exact hw
  | bl b =>
   cases d with
   | bl a =>
    cases dh rd; cases dh re
    cases rx; cases ry
    exact is_bool (bl I hw)
   | _=>exact hw.elim
  | _=>exact hw.elim
 | IsNot =>
  cases e with
  | non =>
   refine Rz pins s σ H x y v u Q I rx ry ⟨m7 re,f.at wk cZ ?_⟩
   have hw:Qd (.bl (!Cr d)) μ:=hw
   rw [Zt rd]; exact hw
  | bl b =>
   cases d with
   | bl a =>
    cases dh rd; cases dh re
    cases rx; cases ry
    exact isnot_bool (bl I hw)
   | _=>exact hw.elim
  | _=>exact hw.elim
 | In =>
  have hw':(∃ t,e = .str t)∨(∃ ds,aG μ e=some ds/\flats 60 ds=true/\flat 60 d=true/\Qd (.bl (ds.any fun d'=>iw d' d)) μ)∨Ao false d e μ Qd:=by
   cases e with
   | str t=>exact .inl ⟨t,rfl⟩
   | _ =>
    right
    simp only [cM] at hw
    split at hw
    ·rename_i ds hq; exact .inl ⟨ds,hq,hw⟩
    ·exact .inr hw
  rcases hw' with ⟨t,rfl⟩ | ⟨ds,hq,f1,f2,q⟩ | hD
  ·cases d with
   | str a =>
    cases a with
    | nil=>exact hw.elim
    | cons c r =>
     cases r with
     | nil =>
      refine Jo pins s σ H x y v u Q I rx ry ⟨_,_,(bG rd).1,(bG re).1,f.at wk cZ ?_⟩
      have q:Qd (.bl (t.contains c)) μ:=hw
      have q2:=StrLaws.found_one ⟨t.toArray⟩ c
      rw [show (⟨[c].toArray⟩:Str)=⟨#[c]⟩ from rfl,q2]
      simpa using q
     | cons _ _=>exact hw.elim
   | _=>exact hw.elim
  ·obtain ⟨its,a,e1,Oj,hany⟩:=Cy I wk re ry hq f1 f2 rd rx hu
   subst e1
   rcases Oj with Oj | Oj
   ·exact SeqAt.in_listAt _ Oj (fun y hy=>(hany.1 y hy)) (bl I (by rw [hany.2]; exact q))
   ·exact SeqAt.in_tupleAt _ Oj (fun y hy=>(hany.1 y hy)) (bl I (by rw [hany.2]; exact q))
  ·obtain ⟨a,o,rfl,g,q⟩:=in_dict wk rd re hD
   cases (show u=Value.ref a from ry)
   exact ab1 (by lia) I g rx fun s' I'=>bl I' (by simpa using q)
 | NotIn =>
  have hw':(∃ t,e = .str t)∨(∃ ds,aG μ e=some ds/\flats 60 ds=true/\flat 60 d=true/\Qd (.bl (!ds.any fun d'=>iw d' d)) μ)∨Ao true d e μ Qd:=by
   cases e with
   | str t=>exact .inl ⟨t,rfl⟩
   | _ =>
    right
    simp only [cM] at hw
    split at hw
    ·rename_i ds hq; exact .inl ⟨ds,hq,hw⟩
    ·exact .inr hw
  rcases hw' with ⟨t,rfl⟩ | ⟨ds,hq,f1,f2,q⟩ | hD
  ·cases d with
   | str a =>
    cases a with
    | nil=>exact hw.elim
    | cons c r =>
     cases r with
     | nil =>
      refine yX pins s σ H x y v u Q I rx ry ⟨_,_,(bG rd).1,(bG re).1,f.at wk cZ ?_⟩
      have q:Qd (.bl (!t.contains c)) μ:=hw
      have q2:=StrLaws.found_one ⟨t.toArray⟩ c
      rw [show (⟨[c].toArray⟩:Str)=⟨#[c]⟩ from rfl,q2]
      simpa using q
     | cons _ _=>exact hw.elim
   | _=>exact hw.elim
  ·obtain ⟨its,a,e1,Oj,hany⟩:=Cy I wk re ry hq f1 f2 rd rx hu
   subst e1
   rcases Oj with Oj | Oj
   ·exact SeqAt.notIn_listAt _ Oj (fun y hy=>(hany.1 y hy)) (bl I (by rw [hany.2]; exact q))
   ·exact SeqAt.notIn_tupleAt _ Oj (fun y hy=>(hany.1 y hy)) (bl I (by rw [hany.2]; exact q))
  ·obtain ⟨a,o,rfl,g,q⟩:=in_dict wk rd re hD
   cases (show u=Value.ref a from ry)
   exact Tr (by lia) I g rx fun s' I'=>bl I' (by simpa using q)
end
end DW
end
section
set_option maxHeartbeats 2000000
namespace DW
open PySem PySem.Spec PyProof.Rows L2
section
variable {X:Cx} {pins:List (Addr×Obj)} {σ:L2.St} {H:Hp} {s:Shared} {θ:List Addr} {μ:Mem}
theorem u0 {μ:Mem} {n m:Nat}:∀ (ds:List D),flats m (ds.map (jz μ n))=true->∀ d∈ds,flat m (jz μ n d)=true
 | [],_,d,h=>by simp at h
 | e :: ds,h,d,hd=>by
  have h':flat m (jz μ n e)=true/\flats m (ds.map (jz μ n))=true:=by simpa [flats] using h
  rcases List.mem_cons.mp hd with rfl | hd
  ·exact h'.1
  ·exact u0 ds h'.2 d hd
theorem readsAll_map (μ:Mem) (n:Nat) {K:PySem.W.Frag} {H:Hp} {θ:List Addr} {h:Heap}:∀ (ds:List D) (vs:List V) (us:List Value),gH K H θ μ ds vs->Vals vs us->(∀ d∈ds,∀ v u,Rp K H θ μ d v->RelV v u->∃ as,Reads h u (pd (jz μ n d)) as)->∃ as,ReadsAll h us (xg (ds.map (jz μ n))) as
 | [],vs,us,r,rv,_=>by cases r.nil_inv; cases rv; exact ⟨_,by rw [List.map_nil]; unfold xg; exact .nil⟩
 | d :: ds,vs,us,r,rv,hh=>by
  obtain ⟨v,vr,rfl,h1,h2⟩:=r.cons_inv
  cases rv with
  | cons ru rr =>
   obtain ⟨as,ra⟩:=hh d (by simp) v _ h1 ru
   obtain ⟨bs,rb⟩:=readsAll_map μ n ds vr _ h2 rr fun e he=>hh e (by simp [he])
   exact ⟨as ++ bs,by rw [List.map_cons]; unfold xg; exact .cons ra rb⟩
theorem jY (I:Inv X pins σ H s) (wk:cF X.K H θ μ):∀ (n m:Nat) (d:D) (v:V) (u:Value),Rp X.K H θ μ d v->RelV v u->flat m (jz μ n d)=true->∃ as,Reads s.heap u (pd (jz μ n d)) as
 | 0,m,d,v,u,r,ru,h=>bN I m d v u r ru h
 | n + 1,m,d,v,u,r,ru,h=>by
  have ls:∀ {a:Addr} {xs:List V} {ds:List D} {u:Value},H a=some (.lst xs)->gH X.K H θ μ ds xs->RelV (.ref a) u->flat m (.lst (ds.map (jz μ n)))=true->∃ as,Reads s.heap u (pd (.lst (ds.map (jz μ n)))) as:=by
   intro a xs ds u hH rs ru h
   cases ru
   cases m with
   | zero=>simp [flat] at h
   | succ m =>
    obtain ⟨its,rv,⟨o,k,ho,hc,_,hd⟩,_⟩:=I.list (lg.of hH)
    obtain ⟨as,ra⟩:=readsAll_map μ n ds xs its rs rv fun d hd v u r ru=>jY I wk n m d v u r ru (u0 ds (by simpa [flat] using h) d hd)
    exact ⟨a :: as,by unfold pd; exact .list ho hc hd (by simpa using ra)⟩
  cases d with
  | tup ds =>
   replace h:flat m (.tup (ds.map (jz μ n)))=true:=h
   obtain ⟨a,xs,rfl,hH,_,rs⟩:=bR r
   cases ru
   cases m with
   | zero=>simp [flat] at h
   | succ m =>
    obtain ⟨its,rv,⟨o,ho,hc,k,hd⟩,_⟩:=I.tuple (qu.of hH)
    obtain ⟨as,ra⟩:=readsAll_map μ n ds xs its rs rv fun d hd v u r ru=>jY I wk n m d v u r ru (u0 ds (by simpa [flat] using h) d hd)
    exact ⟨as,by show Reads _ _ (pd (.tup (ds.map (jz μ n)))) _; unfold pd; exact .tuple ho hc hd (by simpa using ra)⟩
  | lst ds =>
   obtain ⟨a,xs,rfl,hH,_,rs⟩:=fG r
   exact ls hH rs ru h
  | loc k =>
   obtain ⟨a,rfl,h1⟩:=aO r
   have e:jz μ (n + 1) (.loc k)=match μ[k]? with | some (.lst ds)=>.lst (ds.map (jz μ n)) | _=>.loc k:=rfl
   rw [e] at h ⊢
   cases hk:μ[k]? with
   | none=>rw [hk] at h; simp [flat] at h
   | some c =>
    rw [hk] at h
    cases c with
    | lst ds =>
     obtain ⟨xs,hH,rs⟩:=wk.cell k _ a hk h1
     exact ls hH rs ru h
    | ins _ _=>simp [flat] at h
    | cH _ _=>simp [flat] at h
    | bW _ _=>simp [flat] at h
    | jG _ _ _=>simp [flat] at h
    | fdi _ _ _=>simp [flat] at h
    | exc _ _ _=>simp [flat] at h
    | gone=>simp [flat] at h
    | Em=>simp [flat] at h
  | non=>exact bN I m _ v u r ru h
  | bl _=>exact bN I m _ v u r ru h
  | int _=>exact bN I m _ v u r ru h
  | str _=>exact bN I m _ v u r ru h
  | ro _=>exact bN I m _ v u r ru h
  | cH _ _=>exact bN I m _ v u r ru h
  | kZ _ _=>exact bN I m _ v u r ru h
theorem XH {k:Nat} (hr:bU k X.A) (neg:Bool):lG X (compareOp (if neg then .NotEq else .Eq)) (uT X.K (Qn neg)):=by
 intro pins s σ H x y v u Q I rx ry h
 obtain ⟨d,e,θ,μ,Qd,wk,rd,re,⟨f1,f2,q⟩,f⟩:=h
 have hu:X.A.units + 64 < cLine:=hr.units
 obtain ⟨as,ra⟩:=jY I wk 8 60 d x v rd rx f1
 obtain ⟨bs,rb⟩:=jY I wk 8 60 e y u re ry f2
 have dp:=mK _ _ f1
 have bl:∀ {b:Bool},Qd (.bl b) μ->EP X pins σ Q (.bool b) s:=fun q=>⟨.bl _,H,I,rfl,f.at wk cZ q⟩
 cases neg with
 | true =>
  refine SeqAt.compareNe_reads ra rb (bZ _ _ f1) (bZ _ _ f2) (by lia) ?_
  rw [mJ _ _ _ _ f1 f2]; exact bl (by simpa using q)
 | false =>
  refine SeqAt.compareEq_reads ra rb (bZ _ _ f1) (bZ _ _ f2) (by lia) ?_
  rw [mJ _ _ _ _ f1 f2]; exact bl (by simpa using q)
noncomputable def V0 (key:Key) (v:V):TE:=fun _ H Q=>∀ p,H p=none->Q (.ref p) (upd H p (.dK [(key,v)]))
theorem Qu {H:Hp} {p:Addr} {a b:HO}:upd (upd H p a) p b=upd H p b:=by
 funext q
 unfold upd
 split <;> rfl
theorem V3 {pins:List (Addr×Obj)} {σ:L2.St} {H:Hp} {s:Shared} (I:Inv X pins σ H s):sysModules < s.heap.objs.size:=by
 have z:=(I.mod.glob.keeps I.bk).lt
 exact Nat.lt_trans (by decide) z
theorem Mv {key:Key} {ke ve:Expr} {v:V} {pos:Pos} (hk:PE X ke (tC (kV key))) (hv:PE X ve (tC v)):PE X (.Dict [some ke] [ve] pos) (V0 key v):=by
 intro pins s σ H Q I q
 have hn:=I.hok.fresh (Nat.le_refl s.heap.objs.size)
 have e0:aJ X.prog X.w (upd H s.heap.objs.size (.dK [])) (s.heap.push { cls:=.type "dict",data:=.dict #[] }) s.heap.objs.size (.dK []) :=
  ⟨Nat.zero_le _,beq_eq_false_iff_ne.mpr (Ne.symm (Nat.ne_of_lt (V3 I))),[],.nil,Heap.DictOf.new s.heap⟩
 have I1:=I.laid (a:=s.heap.objs.size) (o:=.dK []) (h':=s.heap.push { cls:=.type "dict",data:=.dict #[] }) (t':=s.toks) (fun _ _ z=>Heap.get?_push_of_some _ z) (Nat.le_refl _) e0
 refine wpAny_Dict_walk (knd:=aX X.prog X.w) rfl rfl (by simp) (by simp) (pairTrees_cons_walk ?_)
 refine bL (hk pins _ σ _ (fun x H1=>x=kV key/\H1=upd H s.heap.objs.size (.dK [])) I1 ⟨rfl,rfl⟩) fun u s1 ⟨x,H1,I2,rx,ex,eh⟩=>?_
 subst ex eh
 refine bL (hv pins s1 σ _ (fun y H2=>y=v/\H2=upd H s.heap.objs.size (.dK [])) I2 ⟨rfl,rfl⟩) fun w s2 ⟨y,H2,I3,ry,ey,eh⟩=>?_
 subst ey eh
 refine pairTrees_nil_walk ?_
 obtain ⟨_,hs,vs,kv,dd⟩:=(show aJ X.prog X.w _ s2.heap s.heap.objs.size (.dK []) from I3.hok s.heap.objs.size _ aA)
 cases kv
 have hkey:uV key u=true:=by
  cases key with
  | inl i=>obtain ⟨t,rfl⟩:=rx; exact xJ i t
  | inr z=>obtain ⟨t,rfl⟩:=rx; exact xH z t
 refine ⟨[(key,w)],⟨hkey,rfl,trivial⟩,dd,fun h' Kd hsb=>?_⟩
 have he:∃ q,h'.get? s.heap.objs.size=some q:=let ⟨q,_,_,hq,_⟩:=Kd; ⟨q,hq⟩
 have nw:aJ X.prog X.w (upd (upd H s.heap.objs.size (.dK [])) s.heap.objs.size (.dK [(key,y)])) h' s.heap.objs.size (.dK [(key,y)]) :=
  ⟨by rw [sizeLine_eq]; simp,hs,[(key,w)],.cons ⟨rfl,ry⟩ .nil,Kd⟩
 have I4:=I3.write (x:=s.heap.objs.size) (e:=s.heap.objs.size) (o:=.dK [(key,y)]) (h':=h') (t':=s2.toks + 1) (by rw [aA]; exact True.intro) (.inl rfl) (fun b o nb z=>hsb.extBut _ _ nb z) he nw
 rw [Qu] at I4
 exact ⟨.ref s.heap.objs.size,_,I4,rfl,q _ hn⟩
theorem Ng {K:PySem.W.Frag} {H:Hp} {θ:List Addr} {μ:Mem} {Qd:QD} {Q:VK} {p:Addr} {k:aC} {i:Int} (wk:cF K H θ μ) (f:Fin K H θ μ Qd Q) (h:Qd (.loc μ.length) (μ ++ [.cH [k] [.int i]])) (hp:H p=none):Q (.ref p) (upd H p (.dK [(keyOf k,.int i)])):=by
 have g:au H θ μ (upd H p (.dK [(keyOf k,.int i)])) (θ ++ [p]) (μ ++ [.cH [k] [.int i]]):=au.new wk hp
 refine f (.loc μ.length) (.ref p) _ (θ ++ [p]) (μ ++ [.cH [k] [.int i]]) (wk.new (c:=.cH [k] [.int i]) hp (show gJ K _ _ _ p (.cH [k] [.int i]) from ⟨_,aA,rfl,aB.one aY⟩)) g ?_ h
 unfold Rep
 exact ⟨p,rfl,by rw [<- wk.len]; simp⟩
end
end DW
end
section
namespace DW
open PySem PySem.Spec PyProof.Rows L2
section
variable {prog:Program} {w:World} {A:Around} {E:Value->Shared->Prop} {s:Shared} {d it:Addr} {od:Obj} {es:Array DictEntry} {ep i:Nat}
theorem Tp {Q:Value->Shared->Prop} (hs:(d == sysModules)=false) (ho:s.heap.get? d=some od) (hc:od.ExactDict) (hd:od.data = .dict es ep)
  (hQ:Q (.ref s.heap.objs.size) { s with heap:=s.heap.push { cls:=.type "dict_keyiterator",data:=.fields #[.ref d,.int 0 0,.int es.size 0,.int ep 0] } }):wpAny (model prog w) A (pyIter (.ref d)) Q E s:=by
 have T0:s.TypeIs (.ref d) "dict":=⟨od,ho,hc.1⟩
 refine wpAny_pyIter_slot T0 PySem.F.slot_dict_iter (wpAny_call_entry PySem.F.slot_dict_iter T0 PySem.F.entry_dict_iter ?_ (PySem.F.args_dict_iter_1 _))
 unfold Builtin.«dict.__iter__»; refine wpAny_bind ?_; unfold Builtin.Dict.dictSlotNone
 refine wpAny_bind (wpAny_notOrdered_dict T0 ?_); show wpAny _ _ (pure (Value.ref d)) _ _ s; refine wpAny_pure ?_
 show wpAny _ _ (Builtin.Dict.showsAll d >>= _) _ _ s; unfold Builtin.Dict.showsAll
 rw [if_neg (by rw [hs]; exact Bool.false_ne_true)]; refine wpAny_bind (wpAny_pure (wpAny_bind (wpAny_dictEntries ho hd (wpAny_bind (wpAny_dictEpoch ho hd ?_)))))
 refine wpAny_bind (wpAny_newObj_type (wpAny_pure ⟨_,rfl,"dict_keyiterator",_,⟨_,Heap.get?_push_size _ rfl,rfl⟩,PySem.F.slot_dict_keyiterator_next.lookup,?_⟩)); simpa [rawInt] using hQ
theorem OJ {Q:Option Value->Shared->Prop} (hit:s.heap.IsKeyIter it d i es.size ep) (hod:s.heap.get? d=some od) (hdd:od.data = .dict es ep) (hlt:i < es.size)
  (hQ:∀ h',h'.IsKeyIter it d (i + 1) es.size ep->Heap.SameBut it s.heap h'->Q (some es[i].key) { s with heap:=h' }):wpAny (model prog w) A (pyNext (.ref it)) Q E s:=by
 obtain ⟨o,ho,hc,hd⟩:=id hit
 unfold pyNext
 refine wpAny_bind (wpAny_attempt (wpAny_callSpecial?_slot (name:=Str.ofString "__next__") hit.typeIs PySem.F.slot_dict_keyiterator_next (wpAny_call_entry PySem.F.slot_dict_keyiterator_next hit.typeIs PySem.F.entry_dict_keyiterator_next ?_ (PySem.F.args_dict_keyiterator_next_1 _))))
 refine wpAny_bind (wpAny_pure (wpAny_bind (wpAny_bind ?_)))
 (first | refine wpAny_bind (wpAny_typeNameOfWhole_keyiter hit.typeIs (wpAny_pure ?_)) | refine wpAny_bind (wpAny_typeNameOf_keyiter hit.typeIs (wpAny_pure ?_))); refine wpAny_bind (wpAny_fieldsOf ho hd ?_)
 have own:Builtin.Dict_items.ownsTuple "dict_keyiterator" = false:=by decide
 simp only [own,Bool.false_eq_true,if_false]; show wpAny _ _ (if (Value.ref d == Value.none)=true then _ else _) _ _ s
 rw [if_neg (show ¬ ((Value.ref d == Value.none)=true) from Bool.false_ne_true)]; refine wpAny_bind (wpAny_pure (wpAny_bind (wpAny_dictEntries hod hdd ?_)))
 rw [if_neg (by simp)]; refine wpAny_bind (wpAny_pure (wpAny_bind (wpAny_dictEpoch hod hdd ?_))); rw [if_neg (by simp)]; refine wpAny_pure ?_
 simp only [show ¬ ((i:Int) < 0) from by lia,if_false,Int.toNat_natCast,Array.getElem?_eq_getElem hlt]; refine wpAny_bind ?_
 (first | refine wpAny_bind (wpAny_typeNameOfWhole_keyiter hit.typeIs (wpAny_pure ?_)) | refine wpAny_bind (wpAny_typeNameOf_keyiter hit.typeIs (wpAny_pure ?_))); refine wpAny_bind (wpAny_isOneOf_keyiter hit.typeIs ?_)
 show wpAny _ _ (setField (.ref it) 1 (rawInt ((i:Int) + 1)) >>= _) _ _ s; refine wpAny_bind (wpAny_setField ho hd (by simp) ?_)
 have nx:(s.heap.update it (Obj.mapFields (·.setIfInBounds 1 (rawInt ((i:Int) + 1))))).IsKeyIter it d (i + 1) es.size ep:=⟨_,Heap.get?_update_self _ ho (Obj.isFreed_of_fields (Obj.data_mapFields hd _)),(Obj.cls_mapFields ..).trans hc,by rw [Obj.data_mapFields hd]; simp [rawInt]⟩
 refine wpAny_bind (wpAny_holding (wpAny_bind (wpAny_isOneOf_keyiter (s:={ s with heap:=s.heap.update it (Obj.mapFields (·.setIfInBounds 1 (rawInt ((i:Int) + 1)))) }) nx.typeIs ?_)))
 show wpAny _ _ (pure es[i].key) _ _ _; exact wpAny_pure (wpAny_pure ⟨_,rfl,wpAny_pure (hQ _ nx (Heap.SameBut.update ..))⟩)
theorem Tq {Q:Option Value->Shared->Prop} (hh:A.handled=none) (hit:s.heap.IsKeyIter it d i es.size ep) (hod:s.heap.get? d=some od) (hdd:od.data = .dict es ep) (hge:es.size<=i)
  (hQ:∀ h',Heap.ExtBut it s.heap h'->Q none { s with heap:=h' }):wpAny (model prog w) A (pyNext (.ref it)) Q E s:=by
 obtain ⟨o,ho,hc,hd⟩:=id hit
 unfold pyNext
 refine wpAny_bind (wpAny_attempt (wpAny_callSpecial?_slot (name:=Str.ofString "__next__") hit.typeIs PySem.F.slot_dict_keyiterator_next (wpAny_call_entry PySem.F.slot_dict_keyiterator_next hit.typeIs PySem.F.entry_dict_keyiterator_next ?_ (PySem.F.args_dict_keyiterator_next_1 _))))
 refine wpAny_bind (wpAny_pure (wpAny_bind (wpAny_bind ?_)))
 (first | refine wpAny_bind (wpAny_typeNameOfWhole_keyiter hit.typeIs (wpAny_pure ?_)) | refine wpAny_bind (wpAny_typeNameOf_keyiter hit.typeIs (wpAny_pure ?_))); refine wpAny_bind (wpAny_fieldsOf ho hd ?_)
 have own:Builtin.Dict_items.ownsTuple "dict_keyiterator" = false:=by decide
 simp only [own,Bool.false_eq_true,if_false]; show wpAny _ _ (if (Value.ref d == Value.none)=true then _ else _) _ _ s
 rw [if_neg (show ¬ ((Value.ref d == Value.none)=true) from Bool.false_ne_true)]; refine wpAny_bind (wpAny_pure (wpAny_bind (wpAny_dictEntries hod hdd ?_)))
 rw [if_neg (by simp)]; refine wpAny_bind (wpAny_pure (wpAny_bind (wpAny_dictEpoch hod hdd ?_))); rw [if_neg (by simp)]; refine wpAny_pure ?_
 simp only [show ¬ ((i:Int) < 0) from by lia,if_false,Int.toNat_natCast,Array.getElem?_eq_none hge]; refine wpAny_bind ?_
 (first | refine wpAny_bind (wpAny_typeNameOfWhole_keyiter hit.typeIs (wpAny_pure ?_)) | refine wpAny_bind (wpAny_typeNameOf_keyiter hit.typeIs (wpAny_pure ?_))); show wpAny _ _ (setField (.ref it) 0 .none >>= _) _ _ s
 refine wpAny_bind (wpAny_setField ho hd (by simp) ?_); show wpAny _ _ (newExc (.type "StopIteration") [] >>= _) _ _ _; refine wpAny_bind ?_
 simp only [newExc,newTuple]; refine wpAny_bind (wpAny_newObj_type ?_ (by size_fits)); refine wpAny_bind (m:=firstArgMember _ _) (wpAny_of_eq (a:=Value.none) (by first | rfl | (simp only [firstArgMember]; rfl)) ?_)
 refine wpAny_newObj_type ?_ (by size_fits); simp only [raiseNew]; refine wpAny_bind (wpAny_handled ?_); rw [show A.in1.handled=none from hh]
 refine wpAny_bind (wpAny_pure (wpAny_throw ?_)); refine wpAny_bind (wpAny_isInstance (T:="StopIteration") (b:=true) ⟨_,Heap.get?_push_size _ rfl,rfl⟩ isSubtype_stop ?_)
 exact wpAny_pure (hQ _ (((Heap.SameBut.update ..).extBut.push _).push _))
end
end DW
end
section
namespace DW
open PySem PySem.Spec PyProof.Rows L2
section
variable {prog:Program} {w:World} {A:Around} {E:Value->Shared->Prop} {s:Shared} {d it:Addr} {od:Obj} {es:Array DictEntry} {ep i:Nat}
theorem SM {v:Addr} {Q:Value->Shared->Prop} (hv:s.heap.IsItemsView v d) (ho:s.heap.get? d=some od) (hd:od.data = .dict es ep)
  (hQ:Q (.ref s.heap.objs.size) { s with heap:=s.heap.push { cls:=.type "dict_itemiterator",data:=.fields #[.none,.bool false,.ref d,.int 0 0,.int es.size 0,.int ep 0,.none,.none] } }):wpAny (model prog w) A (pyIter (.ref v)) Q E s:=by
 obtain ⟨ov,hov,hcv,hdv⟩:=id hv
 refine wpAny_pyIter_slot hv.typeIs PySem.F.slot_dict_items_iter (wpAny_call_entry PySem.F.slot_dict_items_iter hv.typeIs PySem.F.entry_dict_items_iter ?_ (PySem.F.args_dict_items_iter_1 _))
 unfold Builtin.«dict_items.__iter__»
 refine wpAny_bind (wpAny_pure (wpAny_bind ?_))
 unfold Builtin.Dict_items.dictOf
 refine wpAny_bind (wpAny_field hov hdv (x:=.ref d) rfl (wpAny_pure (wpAny_bind ?_)))
 unfold Builtin.Dict_items.newIterator
 refine wpAny_bind (wpAny_dictEntries ho hd (wpAny_bind (wpAny_dictEpoch ho hd ?_)))
 have hown:Builtin.Dict_items.ownsTuple "dict_itemiterator" = true:=by decide
 simp only [hown,if_true]
 refine wpAny_newObj_type (wpAny_pure ⟨_,rfl,"dict_itemiterator",_,⟨_,Heap.get?_push_size _ rfl,rfl⟩,PySem.F.slot_dict_itemiterator_next.lookup,?_⟩)
  (by simp only [sizeOk,Builtin.Dict_items.ownedTupleFields,List.size_toArray,List.length_append,List.length_cons,List.length_nil,sizeLine_eq]; lia)
 simpa [rawInt,Builtin.Dict_items.ownedTupleFields] using hQ
theorem Od {ok ov:Value} {Q:Option Value->Shared->Prop} (hit:IsItemIter s.heap it d i es.size ep ok ov) (hod:s.heap.get? d=some od) (hdd:od.data = .dict es ep) (hlt:i < es.size)
  (hQ:∀ h',IsItemIterOut h' it d (i + 1) es.size ep es[i].key es[i].val s.heap.objs.size->h'.get? s.heap.objs.size=some { cls:=.type "tuple",data:=.seq #[es[i].key,es[i].val] } ->
   (∀ b o,b≠it->s.heap.get? b=some o->h'.get? b=some o)->Q (some (.ref s.heap.objs.size)) { s with heap:=h' }):wpAny (model prog w) A (pyNext (.ref it)) Q E s:=by
 obtain ⟨hp,g,dr,tk,os⟩:=s
 have hT:Shared.TypeIs ⟨hp,g,dr,tk,os⟩ (.ref it) "dict_itemiterator":=⟨_,hit,rfl⟩
 unfold pyNext
 refine wpAny_bind (wpAny_attempt (wpAny_callSpecial?_slot (name:=Str.ofString "__next__") hT PySem.F.slot_dict_itemiterator_next (wpAny_call_entry PySem.F.slot_dict_itemiterator_next hT PySem.F.entry_dict_itemiterator_next ?_ (PySem.F.args_dict_itemiterator_next_1 _))))
 refine wpAny_bind (wpAny_pure (wpAny_bind (wpAny_bind ?_)))
 first | refine wpAny_bind (wpAny_typeNameOfWhole_itemiter hT (wpAny_pure ?_)) | refine wpAny_bind (wpAny_typeNameOf_itemiter hT (wpAny_pure ?_))
 refine wpAny_bind (wpAny_fieldsOf hit rfl ?_)
 have hown:Builtin.Dict_items.ownsTuple "dict_itemiterator" = true:=by decide
 simp only [hown,if_true]
 show wpAny _ _ (if (Value.ref d == Value.none)=true then _ else _) _ _ _
 rw [if_neg (show ¬ ((Value.ref d == Value.none)=true) from Bool.false_ne_true)]
 refine wpAny_bind (wpAny_pure (wpAny_bind (wpAny_dictEntries hod hdd ?_)))
 rw [if_neg (by simp)]
 refine wpAny_bind (wpAny_pure (wpAny_bind (wpAny_dictEpoch hod hdd ?_)))
 rw [if_neg (by simp)]
 refine wpAny_pure ?_
 simp only [show ¬ ((i:Int) < 0) from by lia,if_false,Int.toNat_natCast,Array.getElem?_eq_getElem hlt]
 refine wpAny_bind ?_
 first | refine wpAny_bind (wpAny_typeNameOfWhole_itemiter hT (wpAny_pure ?_)) | refine wpAny_bind (wpAny_typeNameOf_itemiter hT (wpAny_pure ?_))
 refine wpAny_bind (wpAny_isOneOf_itemiter hT ?_)
 show wpAny _ _ (setField (.ref it) 3 (rawInt ((i:Int) + 1)) >>= _) _ _ ⟨hp,g,dr,tk,os⟩
 refine wpAny_bind (wpAny_setField_rec hit (by simp) fun h1 Z2 hs1=>?_)
 replace hs1:Heap.SameBut it hp h1:=hs1
 replace Z2:IsItemIter h1 it d (i + 1) es.size ep ok ov:=by
  have e:((i + 1:Nat):Int)=(i:Int) + 1:=by lia
  unfold IsItemIter; rw [e]; simpa [rawInt] using Z2
 have hT1:Shared.TypeIs ⟨h1,g,dr,tk,os⟩ (.ref it) "dict_itemiterator":=⟨_,Z2,rfl⟩
 refine wpAny_bind (wpAny_holding (wpAny_bind (wpAny_isOneOf_itemiter hT1 (wpAny_bind (wpAny_isOneOf_itemiter hT1 ?_)))))
 show wpAny _ _ (Builtin.Dict_items.pairFromOwner (.ref it) 6 es[i].key es[i].val) _ _ ⟨h1,g,dr,tk,os⟩
 unfold Builtin.Dict_items.pairFromOwner
 refine wpAny_bind (wpAny_newTuple ?_)
 have he2:IsItemIter (h1.push { cls:=.type "tuple",data:=.seq #[es[i].key,es[i].val] }) it d (i + 1) es.size ep ok ov:=Heap.get?_push_of_some _ Z2
 generalize hh2:h1.push { cls:=.type "tuple",data:=.seq #[es[i].key,es[i].val] }=h2 at he2
 have hz1:h1.objs.size=hp.objs.size:=hs1.1
 have hil:it < hp.objs.size:=Heap.lt_size hit
 have ht2:h2.get? hp.objs.size=some { cls:=.type "tuple",data:=.seq #[es[i].key,es[i].val] }:=by rw [<- hh2,<- hz1]; exact Heap.get?_push_size _ rfl
 have hk2:∀ b o,b≠it->hp.get? b=some o->h2.get? b=some o:=fun b o hb e=>by rw [<- hh2]; exact Heap.get?_push_of_some _ (hs1.extBut b o hb e)
 show wpAny _ _ (Builtin.Dict_items.ownedTupleIsFree (.ref it) >>= _) _ _ ⟨h2,g,dr,tk,os⟩
 rw [hz1]
 clear hh2 Z2 hs1 hT1 hz1 h1
 refine wpAny_bind ?_
 unfold Builtin.Dict_items.ownedTupleIsFree
 refine wpAny_bind (wpAny_field he2 rfl (x:=.none) rfl (wpAny_pure ?_))
 simp only [if_true]
 refine wpAny_bind (wpAny_field he2 rfl (x:=ok) rfl (wpAny_bind (wpAny_field he2 rfl (x:=ov) rfl ?_)))
 refine wpAny_bind (wpAny_setField_rec he2 (by simp) fun h3 he3 hs3=>?_)
 replace he3:IsItemIter h3 it d (i + 1) es.size ep es[i].key ov:=he3
 refine wpAny_bind (wpAny_setField_rec he3 (by simp) fun h4 he4 hs4=>?_)
 replace he4:IsItemIter h4 it d (i + 1) es.size ep es[i].key es[i].val:=he4
 refine wpAny_bind (wpAny_setField_rec he4 (by simp) fun h5 Xr hs5=>?_)
 replace Xr:IsItemIterOut h5 it d (i + 1) es.size ep es[i].key es[i].val hp.objs.size:=Xr
 refine wpAny_bind (wpAny_setField_rec Xr (by simp) fun h6 Z1 hs6=>?_)
 replace Z1:IsItemIterOut h6 it d (i + 1) es.size ep es[i].key es[i].val hp.objs.size:=Z1
 have up:∀ b o,b≠it->h2.get? b=some o->h6.get? b=some o:=fun b o hb e=>hs6.extBut b o hb (hs5.extBut b o hb (hs4.extBut b o hb (hs3.extBut b o hb e)))
 exact wpAny_bind (wpAny_letGo (wpAny_pure (wpAny_pure ⟨_,rfl,wpAny_pure (hQ h6 Z1 (up _ _ (Nat.ne_of_gt hil) ht2) fun b o hb e=>up b o hb (hk2 b o hb e))⟩)))
theorem SN {ok ov:Value} {Q:Option Value->Shared->Prop} (hh:A.handled=none) (hit:IsItemIter s.heap it d i es.size ep ok ov) (hod:s.heap.get? d=some od) (hdd:od.data = .dict es ep) (hge:es.size<=i)
  (hQ:∀ h',Heap.ExtBut it s.heap h'->Q none { s with heap:=h' }):wpAny (model prog w) A (pyNext (.ref it)) Q E s:=by
 have hT:s.TypeIs (.ref it) "dict_itemiterator":=⟨_,hit,rfl⟩
 unfold pyNext
 refine wpAny_bind (wpAny_attempt (wpAny_callSpecial?_slot (name:=Str.ofString "__next__") hT PySem.F.slot_dict_itemiterator_next (wpAny_call_entry PySem.F.slot_dict_itemiterator_next hT PySem.F.entry_dict_itemiterator_next ?_ (PySem.F.args_dict_itemiterator_next_1 _))))
 refine wpAny_bind (wpAny_pure (wpAny_bind (wpAny_bind ?_)))
 first | refine wpAny_bind (wpAny_typeNameOfWhole_itemiter hT (wpAny_pure ?_)) | refine wpAny_bind (wpAny_typeNameOf_itemiter hT (wpAny_pure ?_))
 refine wpAny_bind (wpAny_fieldsOf hit rfl ?_)
 have hown:Builtin.Dict_items.ownsTuple "dict_itemiterator" = true:=by decide
 simp only [hown,if_true]
 show wpAny _ _ (if (Value.ref d == Value.none)=true then _ else _) _ _ s
 rw [if_neg (show ¬ ((Value.ref d == Value.none)=true) from Bool.false_ne_true)]
 refine wpAny_bind (wpAny_pure (wpAny_bind (wpAny_dictEntries hod hdd ?_)))
 rw [if_neg (by simp)]
 refine wpAny_bind (wpAny_pure (wpAny_bind (wpAny_dictEpoch hod hdd ?_)))
 rw [if_neg (by simp)]
 refine wpAny_pure ?_
 simp only [show ¬ ((i:Int) < 0) from by lia,if_false,Int.toNat_natCast,Array.getElem?_eq_none hge]
 refine wpAny_bind ?_
 first | refine wpAny_bind (wpAny_typeNameOfWhole_itemiter hT (wpAny_pure ?_)) | refine wpAny_bind (wpAny_typeNameOf_itemiter hT (wpAny_pure ?_))
 show wpAny _ _ (setField (.ref it) 2 .none >>= _) _ _ s
 refine wpAny_bind (wpAny_setField hit rfl (by simp) ?_)
 show wpAny _ _ (newExc (.type "StopIteration") [] >>= _) _ _ _
 refine wpAny_bind ?_
 simp only [newExc,newTuple]
 refine wpAny_bind (wpAny_newObj_type ?_ (by size_fits))
 refine wpAny_bind (m:=firstArgMember _ _) (wpAny_of_eq (a:=Value.none) (by first | rfl | (simp only [firstArgMember]; rfl)) ?_)
 refine wpAny_newObj_type ?_ (by size_fits)
 simp only [raiseNew]
 refine wpAny_bind (wpAny_handled ?_)
 rw [show A.in1.handled=none from hh]
 refine wpAny_bind (wpAny_pure (wpAny_throw ?_))
 refine wpAny_bind (wpAny_isInstance (T:="StopIteration") (b:=true) ⟨_,Heap.get?_push_size _ rfl,rfl⟩ isSubtype_stop ?_)
 exact wpAny_pure (hQ _ (((Heap.SameBut.update ..).extBut.push _).push _))
theorem R7 {Q:Value->Shared->Prop} (hs:(d == sysModules)=false) (ho:s.heap.get? d=some od) (hc:od.ExactDict) (hd:od.data = .dict es ep) (hfit:(es.size:Int) < 2 ^ 63)
  (h:Q (.int es.size (s.toks + 1)) { s with toks:=s.toks + 1 + 1 }):wpAny (model prog w) A (call (.builtin "len") [.ref d]) Q E s:=by
 have T0:s.TypeIs (.ref d) "dict":=⟨od,ho,hc.1⟩
 refine Calls.call_function_entry kind_len plain_len entry_len (args_len1 _) ?_
 unfold Builtin.«len»
 refine wpAny_bind (m:=oneArg "len" _) (wpAny_pure ?_)
 refine wpAny_bind (m:=callSpecial? (.ref d) (Str.ofString "__len__")) (wpAny_callSpecial?_slot (name:=Str.ofString "__len__") T0 PySem.F.slot_dict_len
  (wpAny_call_entry PySem.F.slot_dict_len T0 PySem.F.entry_dict_len ?_ (PySem.F.args_dict_len_1 _)))
 show wpAny _ _ (dictSize d >>= _) _ _ s
 unfold dictSize
 refine wpAny_bind (wpAny_bind (wpAny_dictEntries ho hd (wpAny_pure ?_)))
 show wpAny _ _ (Builtin.Dict.pendingCount d >>= _) _ _ s
 refine wpAny_bind (wpAny_pendingCount_other hs (wpAny_ret_mkInt ?_))
 have e0:((es.size:Nat):Int) + ((0:Nat):Int)=es.size:=by simp
 rw [e0]
 refine wpAny_bind (wpAny_holding (wpAny_pure (wpAny_bind (wpAny_letGo ?_))))
 show wpAny _ _ (if ((es.size:Nat):Int) < 0 then _ else _) _ _ _
 rw [if_neg (by lia)]
 show wpAny _ _ (if ((es.size:Nat):Int) ≥ 2 ^ 63 then _ else _) _ _ _
 rw [if_neg (by lia)]
 exact wpAny_bind (wpAny_mkInt (wpAny_pure ⟨_,rfl,h⟩))
theorem Gn {Q:Value->Shared->Prop} (ho:s.heap.get? d=some od) (hc:od.ExactDict) (hd:od.data = .dict es ep) (hes:es.size<=sizeLine)
  (h:∀ h' o',h'.get? d=some o'->o'.ExactDict->o'.data = .dict #[] (ep + 1)->Heap.SameBut d s.heap h'->Q .none { s with heap:=h' }):wpAny (model prog w) A (call (.builtin "dict.clear") [.ref d]) Q E s:=by
 have T0:s.TypeIs (.ref d) "dict":=⟨od,ho,hc.1⟩
 refine wpAny_call_entry PySem.F.slot_dict_clear T0 PySem.F.entry_dict_clear ?_ (PySem.F.args_dict_clear_1 _)
 unfold Builtin.«dict.clear»
 refine wpAny_bind ?_
 unfold Builtin.Dict.noArgs
 refine wpAny_bind (wpAny_notOrdered_dict T0 ?_)
 show wpAny _ _ (pure d) _ _ s
 refine wpAny_pure (wpAny_bind (wpAny_dictEntries ho hd (wpAny_bind ?_)))
 unfold bearsInstanceDictMark
 refine wpAny_bind (wpAny_load ho (wpAny_pure (wpAny_bind (wpAny_updateDictKeys (hz:=hes) ho hd ?_))))
 have q:=h (s.heap.update d (Obj.mapDictKeys fun _=>#[])) _ (Heap.get?_update_self _ ho (Obj.isFreed_of_dict (Obj.data_mapDictKeys hd _))) (hc.mapDictKeys _) (Obj.data_mapDictKeys hd _) (Heap.SameBut.update ..)
 split
 ·exact wpAny_bind (wpAny_letGo (wpAny_pure ⟨.none,rfl,q⟩))
 ·exact wpAny_bind (wpAny_pure (wpAny_pure ⟨.none,rfl,q⟩))
end
section
variable {prog:Program} {w:World} {K:Type} [DecidableEq K] {knd:HeapKind prog w K} {A:Around} {E:Value->Shared->Prop} {s:Shared}
theorem Jd {nm:String} {a b:Addr} {xs ys:List (K×Addr×Value)} {Q:Bool->Shared->Prop} (hu:knd.room A) (ha:(a == sysModules)=false) (hb:(b == sysModules)=false)
  (da:s.heap.DictOfH knd a xs) (db:s.heap.DictOfH knd b ys) (hl:xs.length=ys.length) (hits:∀ x∈xs,∃ p,atKey ys x.1=some p/\SeqAt.EqAt A s x.2.2 p.2 true) (h:Q true s) :
  wpAny (model prog w) A (Builtin.Dict.samePairs nm a b) Q E s:=by
 obtain ⟨oa,es,ep,hoa,_,hda,hka,hia,hna⟩:=da
 obtain ⟨ob,es',ep',hob,_,hdb,hkb,hib,hnb⟩:=db
 have hla:es.size=xs.length:=size_of_entries hka
 have hlb:es'.size=ys.length:=size_of_entries hkb
 unfold Builtin.Dict.samePairs Builtin.Dict.showsAll
 rw [if_neg (show ¬ (a == sysModules)=true by rw [ha]; exact Bool.false_ne_true),if_neg (show ¬ (b == sysModules)=true by rw [hb]; exact Bool.false_ne_true)]
 refine wpAny_bind (wpAny_pure (wpAny_bind (wpAny_pure ?_)))
 refine wpAny_bind (wpAny_dictEntries hoa hda ?_)
 dsimp only
 refine wpAny_bind (wpAny_dictEntries hob hdb ?_)
 rw [if_neg (by rw [hla,hlb,hl]; simp)]
 refine wpAny_bind (wpAny_dictEpoch hoa hda ?_)
 refine wpAny_bind ?_
 rw [Std.Legacy.Range.forIn_eq_forIn_range']
 simp only [Std.Legacy.Range.size,Nat.sub_zero,Nat.add_sub_cancel,Nat.div_one]
 refine wpAny_forIn_list _ (fun rest q s'=>s'=s/\q=(none,())/\∀ i∈rest,i < es.size) _ ?_ ?_ _ _ ⟨rfl,rfl,fun i hi=>by simpa using hi⟩
 ·rintro x rest q s' ⟨rfl,rfl,hr⟩
  have hlt:x < es.size:=hr x (by simp)
  have hx:x < xs.length:=by lia
  refine wpAny_bind (wpAny_dictEntries hoa hda ?_)
  have ee:es[x]=entryOfKey knd xs[x]:=by
   have:=entry_at hka x
   rw [Array.getElem?_eq_getElem hlt,List.getElem?_eq_getElem hx] at this
   simpa using this
  rw [Array.getElem?_eq_getElem hlt]
  obtain ⟨p,hp,he⟩:=hits xs[x] (List.getElem_mem hx)
  show wpAny _ _ (holding [es[x].key,es[x].val] _ >>= _) _ _ _
  rw [ee]
  show wpAny _ _ (holding [.ref xs[x].2.1,xs[x].2.2] _ >>= _) _ _ _
  refine wpAny_bind (wpAny_holding (wpAny_bind (wpAny_dictFind_heap hu (hia _ (List.getElem_mem hx)) hob hdb hkb hib hnb (fun no=>?_) fun j p' hj=>?_)))
  ·have:=atKey_none_of_get no
   rw [hp] at this; cases this
  ·have e1:=atKey_of_get hnb hj
   rw [hp] at e1; cases e1
   refine wpAny_bind (wpAny_dictEntries hob hdb ?_)
   have e2:=entry_at hkb j
   rw [hj] at e2
   rw [e2]
   refine wpAny_holding (he prog w _ _ ?_)
   show wpAny _ _ (if (!true)=true then _ else _) _ _ _
   rw [if_neg (by decide)]
   refine wpAny_bind (wpAny_dictEpoch hoa hda ?_)
   rw [if_neg (by simp)]
   exact wpAny_pure ⟨rfl,rfl,fun i hi=>hr i (by simp [hi])⟩
 ·rintro q s' ⟨rfl,rfl,_⟩
  exact wpAny_pure h
theorem RQ {a b:Addr} {xs ys:List (K×Addr×Value)} {Q:Value->Shared->Prop} (hr:knd.room A.in1) (ha:(a == sysModules)=false) (hb:(b == sysModules)=false)
  (da:s.heap.DictOfH knd a xs) (db:s.heap.DictOfH knd b ys) (hu:A.units < cLine) (hl:xs.length=ys.length) (hits:∀ x∈xs,∃ p,atKey ys x.1=some p/\SeqAt.EqAt A.in1 s x.2.2 p.2 true) (h:Q (.bool false) s) :
  wpAny (model prog w) A (compareOp .NotEq (.ref a) (.ref b)) Q E s:=by
 refine wpAny_richCompare_same_room (op:=.NotEq) da.typeIs db.typeIs PySem.F.slot_dict_ne (wpAny_call_entry PySem.F.slot_dict_ne da.typeIs PySem.F.entry_dict_ne ?_ (PySem.F.args_dict_ne_2 _ _)) hu
 show wpAny _ _ (Builtin.Dict.dictSlotArgs "__ne__" ⟨[.ref a,.ref b],[]⟩ >>= _) _ _ s
 refine wpAny_bind ?_
 unfold Builtin.Dict.dictSlotArgs
 refine wpAny_bind (wpAny_notOrdered_dict da.typeIs ?_)
 show wpAny _ _ (pure (Value.ref a,Value.ref b)) _ _ s
 refine wpAny_pure ?_
 refine wpAny_bind (wpAny_isInstance (T:="dict") db.typeIs PySem.F.sub_dict_dict ?_)
 simp only [Bool.not_true,Bool.false_eq_true,if_false]
 refine wpAny_bind (wpAny_pure (wpAny_bind (wpAny_pure ?_)))
 refine wpAny_bind (Jd hr ha hb da db hl hits ?_)
 exact wpAny_pure ⟨_,rfl,(fun x=>nomatch x),by simpa using h⟩
end
section
variable {X:Cx} {pins:List (Addr×Obj)} {σ:L2.St} {H:Hp} {s:Shared} {a:Addr} {A:Around} {E:Value->Shared->Prop} {kvs:List (List Key×V)}
theorem XQ {Q:Value->Shared->Prop} (I:Inv X pins σ H s) (e:Rd H a (.dT kvs)) (h:∀ t s',Inv X pins σ H s'->Q (.int kvs.length t) s'):wpAny (model X.prog X.w) A (call (.builtin "len") [.ref a]) Q E s:=by
 obtain ⟨z,hd,xs,rel,o,es,ep,h1,h2,h3,h4,_⟩:=p8 I.hok e
 have l:es.size=kvs.length:=by rw [size_of_entries h4]; exact (Paired.length rel).symm
 refine R7 hd h1 h2 h3 (by rw [l]; rw [sizeLine_eq] at z; lia) ?_
 rw [l]
 exact h _ _ (I.tok _)
theorem O4 {Q:Value->Shared->Prop} (I:Inv X pins σ H s) (e:H a=some (.dT kvs)) (h:∀ s',Inv X pins σ (upd H a (.dT [])) s'->Q .none s'):wpAny (model X.prog X.w) A (call (.builtin "dict.clear") [.ref a]) Q E s:=by
 obtain ⟨z,hd,xs,rel,o,es,ep,h1,h2,h3,h4,_⟩:=CV I.hok e
 have l:es.size=kvs.length:=by rw [size_of_entries h4]; exact (Paired.length rel).symm
 refine Gn h1 h2 h3 (by rw [l]; exact z) fun h' o' q1 q2 q3 hs=>h _ (qe (t':=s.toks) I (by rw [e]; exact True.intro) hs ⟨_,q1⟩ ?_)
 exact ⟨Nat.zero_le _,hd,[],.nil,o',#[],ep + 1,q1,q2,q3,rfl,by simp⟩
end
end DW
end
section
namespace DW
open PySem PySem.Spec PyProof.Rows L2
theorem Sh {H:Hp} {kvs:List (List Key×V)} {xs:List (List Key×Addr×Value)} (r:KT H kvs xs):kvs.map (·.1)=xs.map (·.1):=by
 induction r with
 | nil=>rfl
 | cons h t ih=>rw [List.map_cons,List.map_cons,ih,h.1]
section
variable {X:Cx}
theorem Ni {k:Nat} (hr:bU k X.A):lG X (compareOp .NotEq) (uT X.K Ib):=by
 intro pins s σ H x y v u Q I rx ry h
 obtain ⟨d,e,θ,μ,Qd,wk,rd,re,hq,f⟩:=h
 have hu:X.A.units + 64 < cLine:=hr.units
 have old:Qn true d e μ Qd->wpAny (model X.prog X.w) X.A (compareOp .NotEq v u) (EP X pins σ Q) X.xe s:=fun z=>XH hr true pins s σ H x y v u Q I rx ry ⟨d,e,θ,μ,Qd,wk,rd,re,z,f⟩
 unfold Ib at hq
 split at hq
 ·rename_i n
  split at hq
  ·rename_i ks ds hn
   split at hq
   ·rename_i m
    split at hq
    ·rename_i es hm
     obtain ⟨a,rfl,h1⟩:=aO rd
     obtain ⟨kvs,k1,_,_⟩:=wk.cell n _ a hn h1
     obtain ⟨b,rfl,h2⟩:=aO re
     obtain ⟨ys,hy,_⟩:=wk.list hm h2
     cases rx
     cases ry
     obtain ⟨_,_,vs,_,od,_,_,e1,e2,_⟩:=(show aJ X.prog X.w H s.heap a (.dK kvs) from I.hok a _ k1)
     obtain ⟨_,its,c',_,g1⟩:=(show aJ X.prog X.w H s.heap b (.lst ys) from I.hok b _ hy)
     exact Dh e1 g1 e2.1 rfl (by lia) ⟨.bl true,H,I,rfl,f.at wk cZ hq⟩
    ·exact hq.elim
   ·exact hq.elim
  ·rename_i ks ds hn
   split at hq
   ·rename_i m
    split at hq
    ·rename_i ks' ds' hm
     obtain ⟨⟨hl,hk⟩,hq⟩:=hq
     obtain ⟨a,rfl,h1⟩:=aO rd
     obtain ⟨kvs,k1,k2,k3⟩:=wk.cell n _ a hn h1
     obtain ⟨b,rfl,h2⟩:=aO re
     obtain ⟨kvs',l1,l2,l3⟩:=wk.cell m _ b hm h2
     cases rx
     cases ry
     obtain ⟨_,ha,xs,rel,da⟩:=CV I.hok k1
     obtain ⟨_,hb,ys,QZ,db⟩:=CV I.hok l1
     have e1:kvs.length=ks.length:=by simpa using congrArg List.length k2
     have e2:kvs'.length=ks'.length:=by simpa using congrArg List.length l2
     have e3:=Paired.length rel
     have e4:=Paired.length QZ
     refine RQ (tupleKind_room_in1 (by lia)) ha hb da db (by lia) (by lia) (fun x hx=>?_) ⟨.bl false,H,I,rfl,f.at wk cZ hq⟩
     have nd:(xs.map (·.1)).Nodup:=by obtain ⟨_,_,_,_,_,_,_,_,z⟩:=da; exact z
     obtain ⟨j,hj,ej⟩:=List.mem_iff_getElem.mp hx
     have hj':xs[j]? = some x:=by rw [List.getElem?_eq_getElem hj,ej]
     have hjk:j < kvs.length:=by lia
     have ek:kvs[j].1=x.1:=by
      have:=Sh rel
      have z:(kvs.map (·.1))[j]? = (xs.map (·.1))[j]?:=by rw [this]
      rw [List.getElem?_map,List.getElem?_map,hj',List.getElem?_eq_getElem hjk] at z
      exact Option.some.inj z
     have hjs:j < ks.length:=by lia
     have ek2:kvs[j].1=(ks[j]'hjs).map keyOf:=by
      have z:(kvs.map (·.1))[j]? = (ks.map (·.map keyOf))[j]?:=by rw [k2]
      rw [List.getElem?_map,List.getElem?_map,List.getElem?_eq_getElem hjk,List.getElem?_eq_getElem hjs] at z
      exact Option.some.inj z
     obtain ⟨i,d1,d2⟩:=hk _ (List.getElem_mem hjs)
     obtain ⟨v1,q1,r1⟩:=dH (fun l:List aC=>l.map keyOf) (fun _ _=>dg) ks ds kvs _ _ k2 k3 d1
     obtain ⟨v2,q2,r2⟩:=dH (fun l:List aC=>l.map keyOf) (fun _ _=>dg) ks' ds' kvs' _ _ l2 l3 d2
     cases aF r1
     cases aF r2
     rw [<- ek2,ek] at q1 q2
     have w1:=rel.val x.1
     have w2:=QZ.val x.1
     rw [q1] at w1
     rw [q2] at w2
     have w3:atKey xs x.1=some x.2:=atKey_of_get nd (i:=j) (by rw [hj'])
     rw [w3] at w1
     obtain ⟨t1,z1⟩:=(show ∃ t,x.2.2=Value.int i t from w1)
     cases q:atKey ys x.1 with
     | none=>rw [q] at w2; exact (show False from w2).elim
     | some p =>
      rw [q] at w2
      obtain ⟨t2,z2⟩:=(show ∃ t,p.2=Value.int i t from w2)
      refine ⟨p,rfl,?_⟩
      rw [z1,z2]
      intro prog w E Q hQ
      exact wpAny_eqBool_int (by simpa using hQ)
    ·exact hq.elim
   ·exact hq.elim
  ·exact old hq
 ·exact old hq
end
end DW
end
section
namespace DW
open PySem PySem.Spec PyProof.Rows L2
theorem o8:isSubtype (.type "tuple") (.type "dict")=pure false:=by rw [isSubtype_type]; kernel_rfl
theorem yK:isSubtype (.type "dict") (.type "tuple")=pure false:=by rw [isSubtype_type]; kernel_rfl
theorem wL (l b:Addr) (ol ob:Obj) (hc1:ol.cls = .type "dict") (hc2:ob.cls = .type "tuple") :
  Meets (Builtin.«dict.__eq__» ⟨[.ref l,.ref b],[]⟩) (fun _ R s=>s.heap.get? l=some ol/\s.heap.get? b=some ob/\R (.ok (.ret .notImplemented)) s) :=
 .of_wp fun prog w A R s h=>by
  obtain ⟨hp,g,d,tk,os⟩:=s
  obtain ⟨oc,od,odt,osl⟩:=ol
  obtain ⟨pc,pd,pdt,psl⟩:=ob
  cases hc1
  cases hc2
  obtain ⟨hl,hb,h⟩:=h
  have f1:=o8
  wp_walk using wpAny_loadPart' hl,wpAny_loadPart' hb
  exact ⟨_,rfl,h⟩
theorem yF (l b:Addr) (ol ob:Obj) (hc1:ol.cls = .type "tuple") (hc2:ob.cls = .type "dict") :
  Meets (Builtin.«tuple.__eq__» ⟨[.ref l,.ref b],[]⟩) (fun _ R s=>s.heap.get? l=some ol/\s.heap.get? b=some ob/\R (.ok (.ret .notImplemented)) s) :=
 .of_wp fun prog w A R s h=>by
  obtain ⟨hp,g,d,tk,os⟩:=s
  obtain ⟨oc,od,odt,osl⟩:=ol
  obtain ⟨pc,pd,pdt,psl⟩:=ob
  cases hc1
  cases hc2
  obtain ⟨hl,hb,h⟩:=h
  have f1:=yK
  wp_walk using wpAny_loadPart' hl,wpAny_loadPart' hb
  exact ⟨_,rfl,h⟩
section
variable {X:Cx}
theorem O1 {prog:Program} {w:World} {A:Around} {E:Value->Shared->Prop} {s:Shared} {l b:Addr} {ol ob:Obj} {Q:Value->Shared->Prop} (h1:s.heap.get? l=some ol) (h2:s.heap.get? b=some ob) (c1:ol.cls = .type "dict") (c2:ob.cls = .type "tuple") (hu:A.units < cLine) (q:Q (.bool false) s) :
  wpAny (model prog w) A (richCompare .Eq (.ref l) (.ref b)) Q E s:=by
 have ne:l≠b:=fun e=>by subst e; rw [h1] at h2; cases h2; rw [c1] at c2; exact absurd c2 (by simp)
 have t1:s.TypeIs (.ref l) "dict":=⟨_,h1,c1⟩
 have t2:s.TypeIs (.ref b) "tuple":=⟨_,h2,c2⟩
 exact SeqAt.rc_eq_decline_or (k:=false) t1 t2 (by decide) o8 F.slot_dict_eq F.slot_tuple_eq_refl
  (fun _ z=>call_meets F.slot_dict_eq t1 F.entry_dict_eq (F.args_dict_eq_2 _ _) (wL l b ol ob c1 c2) ⟨h1,h2,z⟩)
  (fun _ z=>call_meets F.slot_tuple_eq_refl t2 F.entry_tuple_eq (F.args_tuple_eq_2 _ _) (yF b l ob ol c2 c1) ⟨h2,h1,z⟩)
  (fun _ z=>wpAny_isSame_ref_other ne h1 h2 (by rw [c1]; simp) z) (.inr hu) q
theorem Oz {k:Nat} (hr:bU k X.A):lG X (compareOp .Eq) (uT X.K Qm):=by
 intro pins s σ H x y v u Q I rx ry h
 obtain ⟨d,e,θ,μ,Qd,wk,rd,re,hq,f⟩:=h
 have hu:X.A.units + 64 < cLine:=hr.units
 unfold Qm at hq
 split at hq
 ·rename_i n
  split at hq
  ·rename_i ks ds hn
   obtain ⟨a,rfl,h1⟩:=aO rd
   obtain ⟨kvs,k1,_,_⟩:=wk.cell n _ a hn h1
   cases e with
   | tup es =>
    unfold Rep at re
    obtain ⟨b,xs,rfl,hb,_,_⟩:=re
    cases rx
    cases ry
    obtain ⟨_,_,vs,_,od,_,_,e1,e2,_⟩:=(show aJ X.prog X.w H s.heap a (.dK kvs) from I.hok a _ k1)
    obtain ⟨_,its,_,ot,g1,g2,_⟩:=(show aJ X.prog X.w H s.heap b (.tup xs) from I.hok b _ hb)
    exact O1 e1 g1 e2.1 g2 (by lia) ⟨.bl false,H,I,rfl,f.at wk cZ hq.2⟩
   | _=>exact hq.1.elim
  ·exact hq.elim
 ·exact oN hr .Eq pins s σ H x y v u Q I rx ry ⟨d,e,θ,μ,Qd,wk,rd,re,hq,f⟩
end
end DW
end
section
namespace DW
open PySem PySem.Spec PyProof.Rows L2
section
variable {X:Cx}
theorem Gz {K:PySem.W.Frag} {H:Hp} {θ:List Addr} {μ:Mem} {d:D} {x:V} {b:Bool} (wk:cF K H θ μ) (r:Rp K H θ μ d x) (h:truth μ d=some b):X8 K x H b:=by
 cases d with
 | non=>cases m7 r; simp only [truth,Option.some.injEq] at h; exact h.symm
 | bl c=>cases dh r; simp only [truth,Option.some.injEq] at h; exact h.symm
 | int i=>cases aF r; simp only [truth,Option.some.injEq] at h; exact h.symm
 | str y =>
  obtain ⟨rfl,hy⟩:=bG r
  simp only [truth,lenOf,Option.map_some,Option.some.injEq] at h
  refine ⟨by simpa [Str.length] using hy,?_⟩
  rw [<- h]
  simp [Str.length]
  cases y <;> simp <;> lia
 | kZ ks ds=>simp [truth,lenOf,aG] at h
 | cH ks ds =>
  obtain ⟨a,kvs,rfl,h1,_,h2,h3⟩:=zK r
  simp only [truth,Option.some.injEq] at h
  refine .inr (.inr ⟨kvs,h1,?_⟩)
  have:=congrArg List.length h2
  simp at this
  rw [<- h,<- this]
  cases kvs <;> simp
 | tup ds =>
  simp only [truth,lenOf,aG,Option.map_some,Option.some.injEq] at h
  obtain ⟨a,xs,rfl,hs,rs⟩:=gk wk r (show aG μ (.tup ds)=some ds from rfl)
  have e:b = !xs.isEmpty:=by rw [<- h,rs.length]; cases xs <;> simp
  rcases hs with hs | hs
  ·exact .inl ⟨xs,hs,e⟩
  ·exact .inr (.inl ⟨xs,hs,e⟩)
 | lst ds =>
  simp only [truth,lenOf,aG,Option.map_some,Option.some.injEq] at h
  obtain ⟨a,xs,rfl,hs,rs⟩:=gk wk r (show aG μ (.lst ds)=some ds from rfl)
  have e:b = !xs.isEmpty:=by rw [<- h,rs.length]; cases xs <;> simp
  rcases hs with hs | hs
  ·exact .inl ⟨xs,hs,e⟩
  ·exact .inr (.inl ⟨xs,hs,e⟩)
 | ro ds =>
  simp only [truth,lenOf,aG,Option.map_some,Option.some.injEq] at h
  obtain ⟨a,xs,rfl,hs,rs⟩:=gk wk r (show aG μ (.ro ds)=some ds from rfl)
  have e:b = !xs.isEmpty:=by rw [<- h,rs.length]; cases xs <;> simp
  rcases hs with hs | hs
  ·exact .inl ⟨xs,hs,e⟩
  ·exact .inr (.inl ⟨xs,hs,e⟩)
 | loc n =>
  simp only [truth,lenOf] at h
  cases q:aG μ (.loc n) with
  | none=>rw [q] at h; cases h
  | some ds =>
   rw [q] at h
   simp only [Option.map_some,Option.some.injEq] at h
   obtain ⟨a,xs,rfl,hs,rs⟩:=gk wk r q
   have e:b = !xs.isEmpty:=by rw [<- h,rs.length]; cases xs <;> simp
   rcases hs with hs | hs
   ·exact .inl ⟨xs,hs,e⟩
   ·exact .inr (.inl ⟨xs,hs,e⟩)
theorem ji {a:Expr} {wa:WE} (ha:PE X a (LE X.K wa)) (he:∀ whole,isTrue a X.env whole=(do let v <- whole; standAt a.pos; holding [v] (truthy v))) :
  PT X a (LT X.K fun ρ μ Q=>wa ρ μ fun d μ1=>jW d μ1 Q):=PT.wk (Br ha he) fun σ H Q h=>by
 obtain ⟨ρ,θ,μ,Qd,s,h,f⟩:=h
 refine ⟨ρ,θ,μ,_,s,h,fun d v H1 θ1 μ1 w1 g1 r1 h1=>?_⟩
 unfold jW at h1
 split at h1
 ·rename_i b e
  exact ⟨b,Gz w1 r1 e,f b H1 θ1 μ1 w1 g1 h1⟩
 ·exact h1.elim
theorem Sq (K:PySem.W.Frag):∀ a∈["NoneType","bool","int","str","tuple","list","dict"],∀ b∈["int","bool","str","tuple","list","dict"],PySem.W.kitOne K (.type a) (.type b)=some (wH a b):=by
 intro a ha b hb
 simp only [List.mem_cons,List.not_mem_nil,or_false] at ha hb
 rcases ha with rfl | rfl | rfl | rfl | rfl | rfl | rfl <;> rcases hb with rfl | rfl | rfl | rfl | rfl | rfl <;> first | rfl | decide
theorem Ik {K:PySem.W.Frag} {H:Hp} {θ:List Addr} {μ:Mem} {d:D} {x:V} {t:String} (wk:cF K H θ μ) (r:Rp K H θ μ d x) (h:tyOf μ d=some t):ql K H x (.type t)/\t∈["NoneType","bool","int","str","tuple","list","dict"]:=by
 cases d with
 | non=>cases m7 r; cases h; exact ⟨.non,by simp⟩
 | bl c=>cases dh r; cases h; exact ⟨.bl _,by simp⟩
 | int i=>cases aF r; cases h; exact ⟨.int _,by simp⟩
 | str y=>cases (bG r).1; cases h; exact ⟨.str _,by simp⟩
 | cH ks ds=>obtain ⟨a,kvs,rfl,h1,_⟩:=zK r; cases h; exact ⟨.dK h1,by simp⟩
 | kZ ks ds=>cases h
 | tup ds=>obtain ⟨a,kvs,rfl,h1,_⟩:=bR r; cases h; exact ⟨.tup h1,by simp⟩
 | lst ds=>obtain ⟨a,kvs,rfl,h1,_⟩:=fG r; cases h; exact ⟨.lst h1,by simp⟩
 | ro ds=>cases h
 | loc n =>
  obtain ⟨a,rfl,h1⟩:=aO r
  simp only [tyOf] at h
  split at h
  ·rename_i es hn
   cases h
   obtain ⟨xs,h2,_⟩:=wk.list hn h1
   exact ⟨.lst h2,by simp⟩
  ·rename_i ks es hn
   cases h
   obtain ⟨kvs,h2,_⟩:=wk.cell n _ a hn h1
   exact ⟨.dK h2,by simp⟩
  ·rename_i ks es hn
   cases h
   obtain ⟨kvs,h2,_⟩:=wk.cell n _ a hn h1
   exact ⟨.dT (.inl h2),by simp⟩
  ·rename_i o ks es hn
   cases h
   obtain ⟨kvs,h2,_⟩:=wk.cell n _ a hn h1
   exact ⟨.dT (.inr ⟨o,h2⟩),by simp⟩
  ·cases h
theorem Pa:∀ b∈["int","bool","str","tuple","list","dict"],bootBuiltins (Str.ofString b)=some (.type b)/\Str.ofString b≠"__name__"/\(Str.ofString b == ("__debug__" : Str))=false:=by
 intro b hb
 simp only [List.mem_cons,List.not_mem_nil,or_false] at hb
 rcases hb with rfl | rfl | rfl | rfl | rfl | rfl <;> exact ⟨by decide +kernel,by decide +kernel,by decide +kernel⟩
theorem mQ:bootBuiltins "isinstance" = some (.builtin "isinstance"):=by decide +kernel
theorem Dn:bV X (.builtin "isinstance") (fun xs H Q=>∃ x t c,xs=[x,.ty c]/\ql X.K H x (.type t)/\t∈["NoneType","bool","int","str","tuple","list","dict"]/\c∈["int","bool","str","tuple","list","dict"]/\Q (.bl (wH t c)) H):=by
 intro pins s σ H xs us Q I r h
 obtain ⟨x,t,c,rfl,ty,ht,hc,q⟩:=h
 obtain ⟨u,w',rfl,rx,ry⟩:=vals2 r
 cases ry
 exact Jx I rx ty (Sq X.K t ht c hc) fun tk=>⟨.bl _,H,I.tok tk,rfl,q⟩
theorem Mr {a:Expr} {wa:WE} {t:String} {y z:Str} {p p2 pos:Pos} (ha:PE X a (LE X.K wa)) (ey:y=Str.ofString "isinstance") (ht:t∈["int","bool","str","tuple","list","dict"]) (ez:z=Str.ofString t) (g1:Gl X y) (g2:Gl X z) (m1:X.mg y=none) (m2:X.mg z=none)
  (hs:starEach [a,.Name z p2] X.env=(false,eval a X.env) :: starEach [.Name z p2] X.env) :
  PE X (.Call (.Name y p) [a,.Name z p2] [] pos) (LE X.K fun ρ μ Q=>wa ρ μ fun d μ1=>lM t d μ1 Q):=by
 subst ey ez
 obtain ⟨b1,b2,b3⟩:=Pa t ht
 have hz:PE X (.Name (Str.ofString t) p2) (tC (.ty t)):=yV g2 m2 b1 rfl b2 b3
 refine PE.wk (dW (x:=Str.ofString "isinstance") Dn g1 m1 mQ (gU ha (gU hz uH) hs) (by decide +kernel) (by decide +kernel) hs rfl) fun σ H Q h=>?_
 obtain ⟨ρ,θ,μ,Qd,s,h,f⟩:=h
 refine ⟨ρ,θ,μ,_,s,h,fun d v H1 θ1 μ1 w1 g1 r1 h1=>?_⟩
 unfold lM at h1
 split at h1
 ·rename_i ty e
  obtain ⟨k1,k2⟩:=Ik w1 r1 e
  exact ⟨v,ty,t,rfl,k1,k2,ht,f _ _ H1 θ1 μ1 w1 g1 cZ h1⟩
 ·exact h1.elim
theorem Oc (n:Nat) (i:Int):wF n i=Xl n i:=rfl
theorem QW {K:PySem.W.Frag} {H:Hp} {θ:List Addr} {μ:Mem} {ds:List D} {xs:List V} {i:Int} {d:D} (r:gH K H θ μ ds xs) (h:(wF ds.length i).bind (ds[·]?)=some d):∃ v,Yt xs i=some v/\Rp K H θ μ d v:=by
 rw [r.length,Oc] at h
 cases q:Xl xs.length i with
 | none=>rw [q] at h; cases h
 | some j =>
  rw [q] at h
  obtain ⟨v,e1,e2⟩:=r.get (i:=j) h
  exact ⟨v,by unfold Yt; rw [q]; exact e1,e2⟩
theorem Xp:Vi X (uT X.K nq):=by
 intro value slice pins s σ H x y v u Q I rx ry h hs
 obtain ⟨d,e,θ,μ,Qd,wk,rd,re,hw,f⟩:=h
 unfold nq at hw
 split at hw
 ·rename_i x' i
  cases aF re
  split at hw
  ·rename_i ds hq
   obtain ⟨a,xs,rfl,hx,r⟩:=gk wk rd hq
   split at hw
   ·rename_i d' hd
    obtain ⟨w',e1,e2⟩:=QW r hd
    rcases hx with hx | hx
    ·exact SJ value slice pins s σ H _ _ v u Q I rx ry ⟨a,xs,i,w',rfl,rfl,hx,e1,f.at wk e2 hw⟩ hs
    ·exact Xk value slice pins s σ H _ _ v u Q I rx ry ⟨a,xs,i,w',rfl,rfl,hx,e1,f.at wk e2 hw⟩ hs
   ·exact hw.elim
  ·exact hw.elim
 ·exact hw.elim
theorem GP (n d:Nat) (o:Option Int):Ep n d o=HT.wz n d o:=by
 cases o with
 | none=>rfl
 | some v=>first | rfl | (simp only [Ep,HT.wz]; done) | (simp only [Ep,HT.wz]; split <;> lia)
noncomputable def UL (K:PySem.W.Frag) (m:Bool):V->Option Int->Option Int->Hp->VK->Prop:=fun x lo hi H Q=>∃ d θ μ Qd,cF K H θ μ/\Rp K H θ μ d x/\Ia m d lo hi μ Qd/\Fin K H θ μ Qd Q
theorem V6 (m:Bool):Yd X (UL X.K m):=by
 intro pins s σ H x v vl vu lo hi sl Q I rx hs pl pu h
 obtain ⟨d,θ,μ,Qd,wk,rd,hw,f⟩:=h
 have go:∀ {ds:List D} {a:Addr} {xs:List V},x = .ref a->lg X.K H a xs->gH X.K H θ μ ds xs->newL m (cutD ds lo hi) μ Qd->_:=fun {ds a xs} ex hx r hn =>
  QK pins s σ H x v vl vu lo hi sl Q I rx hs pl pu ⟨a,xs,ex,hx,fun p hp=>sV wk f (by
   have:cutD ds lo hi=(ds.drop (HT.wz ds.length 0 lo)).take (HT.wz ds.length ds.length hi - HT.wz ds.length 0 lo):=by unfold cutD; rw [GP,GP]
   rw [this,r.length]
   exact (r.drop _).take _) hn hp⟩
 cases d with
 | lst ds=>obtain ⟨a,xs,rfl,h1,_,r⟩:=fG rd; exact go rfl (.of h1) r hw
 | loc n =>
  obtain ⟨a,rfl,h1⟩:=aO rd
  simp only [Ia] at hw
  split at hw
  ·rename_i ds hn
   obtain ⟨xs,h2,r⟩:=wk.list hn h1
   exact go rfl (.of h2) r hw
  ·exact hw.elim
 | _=>exact hw.elim
theorem Lg:Yg X (fun o i v H Q=>∃ x y z θ μ k,cF X.K H θ μ/\Rp X.K H θ μ x o/\Rp X.K H θ μ y i/\Rp X.K H θ μ z v/\qy x y z μ k/\∀ H' μ',cF X.K H' θ μ'->au H θ μ H' θ μ'->k μ'->Q H'):=by
 intro pins s σ H o i v ov iv u Q I ro ri rv h
 obtain ⟨x,y,z,θ,μ,k,wk,rx,ry,rz,hw,f⟩:=h
 unfold qy at hw
 split at hw
 ·rename_i n j
  obtain ⟨a,rfl,ha⟩:=aO rx
  cases aF ry
  split at hw
  ·rename_i xs hn
   split at hw
   ·rename_i p hp
    obtain ⟨vs,h2,r⟩:=wk.list hn ha
    have g:au H θ μ (upd H a (.lst (vs.set p v))) θ (μ.set n (.lst (xs.set p z))):=au.write hn ha (by simp) (by simp)
    refine set_list pins s σ H _ _ v ov iv u Q I ro ri rv ⟨a,vs,j,p,rfl,rfl,h2,by rw [<- Oc,<- r.length]; exact hp,?_⟩
    exact f _ _ (wk.write (c':=.lst (xs.set p z)) hn ha (by simp) (by simp) (show gJ X.K _ _ _ a (.lst (xs.set p z)) from ⟨_,aA,(g.reps r).set (g.rep rz) p⟩)) g hw
   ·exact hw.elim
  ·exact hw.elim
 ·exact hw.elim
end
end DW
end
section
namespace DW
open PySem PySem.Spec PyProof.Rows L2
section
variable {X:Cx}
theorem pQ {K:PySem.W.Frag} {H:Hp} {θ:List Addr} {μ:Mem} {ds:List D} {d:D} {v:V} (wk:cF K H θ μ) (r:Rp K H θ μ d v) (h:dX μ d=some ds):∃ a xs,v = .ref a/\lg K H a xs/\gH K H θ μ ds xs:=by
 cases d with
 | lst es=>simp only [dX,aG,Option.some.injEq] at h; subst h; obtain ⟨a,xs,e,h1,_,h3⟩:=fG r; exact ⟨a,xs,e,.of h1,h3⟩
 | ro es=>simp only [dX,aG,Option.some.injEq] at h; subst h; obtain ⟨a,xs,e,h1,h3⟩:=zJ r; exact ⟨a,xs,e,Ad h1,h3⟩
 | loc n =>
  obtain ⟨a,e,h1⟩:=aO r
  simp only [dX,aG] at h
  split at h
  ·rename_i es hn
   simp only [Option.some.injEq] at h; subst h
   obtain ⟨xs,h2,h3⟩:=wk.list hn h1
   exact ⟨a,xs,e,.of h2,h3⟩
  ·cases h
 | _=>simp [dX,aG] at h
theorem uX {K:PySem.W.Frag} {H:Hp} {θ:List Addr} {μ:Mem}:∀ {ds:List D} {xs:List V} {ns:List Int},gH K H θ μ ds xs->iT ds=some ns->xs=ns.map V.int
 | [],xs,ns,r,h=>by
  cases r.nil_inv
  simp only [iT,Option.some.injEq] at h
  subst h; rfl
 | d :: ds,xs,ns,r,h=>by
  obtain ⟨v,vr,rfl,h1,h2⟩:=r.cons_inv
  cases d with
  | int i =>
   simp only [iT] at h
   cases q:iT ds with
   | none=>rw [q] at h; cases h
   | some ms =>
    rw [q] at h
    simp only [Option.map_some,Option.some.injEq] at h
    subst h
    cases aF h1
    rw [uX h2 q]; rfl
  | _=>simp [iT] at h
theorem HF {K:PySem.W.Frag} {H:Hp} {θ:List Addr} {μ:Mem}:∀ {ds:List D} {xs:List V} {b:Bool},gH K H θ μ ds xs->allB ds=some b->∃ bs:List Bool,xs=bs.map V.bl/\bs.all id=b
 | [],xs,b,r,h=>by
  cases r.nil_inv
  simp only [allB,Option.some.injEq] at h
  subst h; exact ⟨[],rfl,rfl⟩
 | d :: ds,xs,b,r,h=>by
  obtain ⟨v,vr,rfl,h1,h2⟩:=r.cons_inv
  cases d with
  | bl c =>
   simp only [allB] at h
   cases q:allB ds with
   | none=>rw [q] at h; cases h
   | some ms =>
    rw [q] at h
    simp only [Option.map_some,Option.some.injEq] at h
    subst h
    cases dh h1
    obtain ⟨bs,rfl,e⟩:=HF h2 q
    exact ⟨c :: bs,rfl,by simp [<- e]⟩
  | _=>simp [allB] at h
theorem kept_iter {h h':Heap} {o:Obj} (hk:∀ b ob,b ∉ [h.objs.size]->(h.push o).get? b=some ob->h'.get? b=some ob):∀ b ob,h.get? b=some ob->h'.get? b=some ob:=fun b ob e =>
 hk b ob (fun hm=>by
  have:=List.mem_singleton.mp hm
  subst this
  exact Nat.lt_irrefl _ (Heap.lt_size e)) (Heap.get?_push_of_some _ e)
theorem J4 (hc:X.calm=true):bV X (.builtin "all") (fun xs H Q=>∃ p,∃ bs:List Bool,xs=[.ref p]/\lg X.K H p (bs.map V.bl)/\Q (.bl (bs.all id)) H):=by
 intro pins s σ H xs us Q I r h
 obtain ⟨p,bs,rfl,hx,q⟩:=h
 obtain ⟨u,rfl,rx⟩:=vals1 r
 cases rx
 obtain ⟨its,rv,pl,hz⟩:=I.list hx
 have hlt:p < s.heap.objs.size:=by obtain ⟨o,n,e,_⟩:=pl; exact Heap.lt_size e
 have hlen:bs.length=its.length:=by have:=rv.length; simpa using this
 have hit:∀ (i:Nat) (v:Value),its.toArray[i]? = some v->v = .bool (bs.getD i true):=fun i v e=>by
  have e':its[i]? = some v:=by simpa using e
  have hi:i < bs.length:=by rw [hlen]; exact (List.getElem?_eq_some_iff.mp e').1
  obtain ⟨w',h1,h2⟩:=rv.get (i:=i) (x:=.bl (bs.getD i true)) (by simp [hi])
  rw [e'] at h1; cases h1; exact h2
 refine call_all_walk (wpAny_pyIter_list pl.isList ?_)
 refine ⟨s.heap.objs.size,_,_,_,_,_,fun i=>bs.getD i true,rfl,Walks.list (A:=X.A.in1) (I.ok.hd hc) _ p (Nat.ne_of_lt hlt) its.toArray,⟨⟨_,Heap.get?_push_size _ rfl,rfl,rfl⟩,pl.isList.push _⟩,fun i v s' Q' E' hP hQ=>?_,fun h' tk hk=>?_⟩
 ·rw [hit i v hP]; exact wpAny_truthy_bool hQ
 ·refine ⟨.bl (bs.all id),H,I.kept (kept_iter hk),?_,q⟩
  show Value.bool _=Value.bool _
  congr 1
  rw [List.size_toArray,<- hlen,Bool.eq_iff_iff,List.all_eq_true,List.all_eq_true]
  constructor
  ·intro hh x hx
   obtain ⟨i,hi,rfl⟩:=List.mem_iff_getElem.mp hx
   have:=hh i (by simpa using hi)
   simpa [hi] using this
  ·intro hh i hi
   have hi':i < bs.length:=by simpa using hi
   have:=hh bs[i] (List.getElem_mem hi')
   simpa [hi'] using this
theorem dO:∀ {ns:List Int} {its:List Value},Vals (ns.map V.int) its->∃ xs:Array (Int×Tok),its.toArray=intItems xs/\xs.toList.map (·.1)=ns
 | [],its,h=>by cases h; exact ⟨#[],by simp [intItems],rfl⟩
 | n :: ns,its,h=>by
  cases h with
  | cons r rr =>
   obtain ⟨t,rfl⟩:=r
   obtain ⟨xs,e1,e2⟩:=dO rr
   refine ⟨((n,t) :: xs.toList).toArray,?_,by simp [e2]⟩
   have e1':=congrArg Array.toList e1
   simp only [intItems,Array.toList_map] at e1'
   apply Array.toList_inj.mp
   simp only [intItems,Array.toList_map]
   simpa using e1'
theorem uE (xs:Array (Int×Tok)):preSum (numAt xs) xs.size=(xs.toList.map (·.1)).sum:=by
 rw [preSum_eq,List.take_of_length_le (by simp)]
theorem JV (hc:X.calm=true):bV X (.builtin "sum") (fun xs H Q=>∃ p,∃ ns:List Int,xs=[.ref p]/\lg X.K H p (ns.map V.int)/\Q (.int ns.sum) H):=by
 intro pins s σ H xs us Q I r h
 obtain ⟨p,ns,rfl,hx,q⟩:=h
 obtain ⟨u,rfl,rx⟩:=vals1 r
 cases rx
 obtain ⟨its,rv,pl,hz⟩:=I.list hx
 obtain ⟨zs,e1,e2⟩:=dO rv
 have hl:=pl.isList
 rw [e1] at hl
 refine sum_intListG (I.ok.hd hc) hl fun h' tk t' hk=>⟨.int ns.sum,H,I.kept hk,⟨t',?_⟩,q⟩
 rw [uE,e2]
theorem JT (hc:X.calm=true):bV X (.builtin "sum") (fun xs H Q=>∃ p,∃ ns:List Int,xs=[.ref p]/\qu X.K H p (ns.map V.int)/\Q (.int ns.sum) H):=by
 intro pins s σ H xs us Q I r h
 obtain ⟨p,ns,rfl,hx,q⟩:=h
 obtain ⟨u,rfl,rx⟩:=vals1 r
 cases rx
 obtain ⟨its,rv,pl,hz⟩:=I.tuple hx
 obtain ⟨zs,e1,e2⟩:=dO rv
 have hl:s.heap.IsTuple p its.toArray:=pl
 rw [e1] at hl
 refine PySem.W.ktm_sumG (I.ok.hd hc) hl fun h' tk t' hk=>⟨.int ns.sum,H,I.kept hk,⟨t',?_⟩,q⟩
 rw [uE,e2]
theorem RV (xs:Array (Int×Tok)) (n:Int) (ns:List Int) (h:xs.toList.map (·.1)=n :: ns):numAt xs (argBest (fun i j=>decide (numAt xs i < numAt xs j)) (xs.size - 1))=ns.foldl min n:=by
 have key:∀ k,k < (n :: ns).length->numAt xs (argBest (fun i j=>decide (numAt xs i < numAt xs j)) k)=(ns.take k).foldl min n:=by
  intro k
  have at_:∀ i,numAt xs i=((n :: ns)[i]?).getD 0:=fun i=>by
   rw [<- h]; simp [numAt]
  induction k with
  | zero=>intro _; simp [argBest,at_]
  | succ k ih =>
   intro hk
   have ih':=ih (by lia)
   have hk':k < ns.length:=by simpa using hk
   have e:ns.take (k + 1)=ns.take k ++ [ns[k]]:=by rw [List.take_succ_eq_append_getElem hk']
   rw [e,List.foldl_append]
   simp only [List.foldl_cons,List.foldl_nil]
   rw [<- ih']
   simp only [argBest]
   have a1:numAt xs (k + 1)=ns[k]:=by rw [at_]; simp [hk']
   split
   ·rename_i hgt
    have hgt:=of_decide_eq_true hgt
    rw [a1] at hgt ⊢
    lia
   ·rename_i hgt
    have hgt:¬ (numAt xs (k + 1) < _):=fun z=>hgt (decide_eq_true z)
    rw [a1] at hgt
    lia
 have hs:xs.size=(n :: ns).length:=by rw [<- h]; simp
 have:=key (xs.size - 1) (by rw [hs]; simp)
 rw [this,hs,List.take_of_length_le (by simp)]
theorem JW (hc:X.calm=true):bV X (.builtin "min") (fun xs H Q=>∃ p,∃ n:Int,∃ ns:List Int,xs=[.ref p]/\lg X.K H p ((n :: ns).map V.int)/\Q (.int (ns.foldl min n)) H):=by
 intro pins s σ H xs us Q I r h
 obtain ⟨p,n,ns,rfl,hx,q⟩:=h
 obtain ⟨u,rfl,rx⟩:=vals1 r
 cases rx
 obtain ⟨its,rv,pl,hz⟩:=I.list hx
 obtain ⟨zs,e1,e2⟩:=dO rv
 have hl:=pl.isList
 rw [e1] at hl
 have hs:zs.size=(n :: ns).length:=by rw [<- e2]; simp
 refine min_intList (I.ok.hd hc) hl (by rw [hs]; simp) fun v h' tk hv hk=>?_
 obtain ⟨t,rfl⟩:=intItems_at hv
 exact ⟨.int _,H,I.kept hk,⟨t,by rw [RV zs n ns e2]⟩,q⟩
theorem RW (xs:Array (Int×Tok)) (n:Int) (ns:List Int) (h:xs.toList.map (·.1)=n :: ns):numAt xs (argBest (fun i j=>decide (numAt xs i > numAt xs j)) (xs.size - 1))=ns.foldl max n:=by
 have key:∀ k,k < (n :: ns).length->numAt xs (argBest (fun i j=>decide (numAt xs i > numAt xs j)) k)=(ns.take k).foldl max n:=by
  intro k
  have at_:∀ i,numAt xs i=((n :: ns)[i]?).getD 0:=fun i=>by
   rw [<- h]; simp [numAt]
  induction k with
  | zero=>intro _; simp [argBest,at_]
  | succ k ih =>
   intro hk
   have ih':=ih (by lia)
   have hk':k < ns.length:=by simpa using hk
   have e:ns.take (k + 1)=ns.take k ++ [ns[k]]:=by rw [List.take_succ_eq_append_getElem hk']
   rw [e,List.foldl_append]
   simp only [List.foldl_cons,List.foldl_nil]
   rw [<- ih']
   simp only [argBest]
   have a1:numAt xs (k + 1)=ns[k]:=by rw [at_]; simp [hk']
   split
   ·rename_i hgt
    have hgt:=of_decide_eq_true hgt
    rw [a1] at hgt ⊢
    lia
   ·rename_i hgt
    have hgt:¬ (numAt xs (k + 1) > _):=fun z=>hgt (decide_eq_true z)
    rw [a1] at hgt
    lia
 have hs:xs.size=(n :: ns).length:=by rw [<- h]; simp
 have:=key (xs.size - 1) (by rw [hs]; simp)
 rw [this,hs,List.take_of_length_le (by simp)]
theorem JZ (hc:X.calm=true):bV X (.builtin "max") (fun xs H Q=>∃ p,∃ n:Int,∃ ns:List Int,xs=[.ref p]/\lg X.K H p ((n :: ns).map V.int)/\Q (.int (ns.foldl max n)) H):=by
 intro pins s σ H xs us Q I r h
 obtain ⟨p,n,ns,rfl,hx,q⟩:=h
 obtain ⟨u,rfl,rx⟩:=vals1 r
 cases rx
 obtain ⟨its,rv,pl,hz⟩:=I.list hx
 obtain ⟨zs,e1,e2⟩:=dO rv
 have hl:=pl.isList
 rw [e1] at hl
 have hs:zs.size=(n :: ns).length:=by rw [<- e2]; simp
 refine max_intList (I.ok.hd hc) hl (by rw [hs]; simp) fun v h' tk hv hk=>?_
 obtain ⟨t,rfl⟩:=intItems_at hv
 exact ⟨.int _,H,I.kept hk,⟨t,by rw [RW zs n ns e2]⟩,q⟩
end
end DW
end
section
namespace DW
open PySem PySem.Spec PyProof.Rows L2
section
variable {X:Cx}
end
end DW
end
section
namespace DW
open PySem PySem.W PyProof.Rows
noncomputable abbrev at' (p:Array Nat) (k:Nat):Nat:=p.getD k 0
theorem aal (p:Array Nat) (k:Nat):at' p k=p[k]?.getD 0:=by simp [at']
section
variable {lt:Nat->Nat->Bool} (hA:∀ a b,lt a b=true->lt b a=false) (hT:∀ a b c,lt b a=false->lt c b=false->lt c a=false)
noncomputable def Up (lt:Nat->Nat->Bool) (p:Array Nat) (m:Nat):Prop:=∀ i,i + 1 < m->lt (at' p (i + 1)) (at' p i)=false
noncomputable def Yb (lt:Nat->Nat->Bool) (a b:Nat):Prop:=lt a b=false/\lt b a=false
include hT in
theorem Up.le {p:Array Nat} {m:Nat} (h:Up lt p m) (ZX:∀ a,lt a a=false):∀ (d i:Nat),i + d < m->lt (at' p (i + d)) (at' p i)=false
 | 0,i,_=>ZX _
 | d + 1,i,hd=>hT _ _ _ (Up.le h ZX d i (by lia)) (h (i + d) (by lia))
include hT in
theorem Yb.trans {a b c:Nat} (h:Yb lt a b) (k:Yb lt b c):Yb lt a c:=⟨hT c b a k.1 h.1,hT a b c h.2 k.2⟩
theorem Yb.symm {a b:Nat} (h:Yb lt a b):Yb lt b a:=⟨h.2,h.1⟩
end
noncomputable def Asks {α:Type} (n:Nat) (R:α->Prop):KasT α->Prop
 | .ret a=>R a
 | .ask i j k=>i < n/\j < n/\∀ b,Asks n R (k b)
theorem Asks.bind {α β:Type} {n:Nat} {R:α->Prop} {R':β->Prop} {f:α->KasT β}:∀ {t:KasT α},Asks n R t->(∀ a,R a->Asks n R' (f a))->Asks n R' (t.bind f)
 | .ret a,h,k=>k a h
 | .ask i j t,h,k=>⟨h.1,h.2.1,fun b=>Asks.bind (h.2.2 b) k⟩
noncomputable def Bel (n:Nat) (p:Array Nat):Prop:=0 < n/\∀ x∈p,x < n
theorem Bel.at {n:Nat} {p:Array Nat} (h:Bel n p) (k:Nat):at' p k < n:=by
 rw [aal]
 cases e:p[k]? with
 | none=>exact h.1
 | some x=>exact h.2 x (Array.mem_of_getElem? e)
end DW
end
section
set_option maxHeartbeats 4000000
namespace DW
open PySem PySem.W PySem.Calls PyProof.Rows
section
variable {prog:Program} {w:World} {A:Around} {E:Value->Shared->Prop} {s:Shared} {vs:List Value} {lt:Nat->Nat->Bool}
end
end DW
end
section
set_option maxHeartbeats 4000000
namespace DW
open PySem PySem.W PySem.Calls PyProof.Rows
noncomputable def IsItem (h:Heap) (v:Value) (x:Itm):Prop:=∃ (a:Addr) (o:Obj) (t u:Tok) (n:Nat),v = .ref a/\h.get? a=some o/\o.cls = .type "tuple"/\o.data = .seq #[.int x.1 t,.str ⟨x.2.toArray⟩ u] n
section
variable {prog:Program} {w:World} {A:Around} {E:Value->Shared->Prop}
end
end DW
end
section
namespace DW
open PySem PySem.W PyProof.Rows
end DW
namespace DW
open PySem PySem.W PySem.Calls PyProof.Rows
section
variable {prog:Program} {w:World} {A:Around} {E:Value->Shared->Prop}
end
end DW
end
section
set_option maxHeartbeats 4000000
namespace DW
open PySem PySem.W PySem.Calls PyProof.Rows
section
variable {prog:Program} {w:World} {A:Around} {E:Value->Shared->Prop} {s:Shared} {d:Addr} {od:Obj} {es:Array DictEntry} {ep:Nat}
end
section
variable {prog:Program} {w:World} {A:Around} {E:Value->Shared->Prop}
end
end DW
end
section
set_option maxHeartbeats 4000000
namespace DW
open PySem PySem.W PySem.Calls PyProof.Rows
section
variable {prog:Program} {w:World} {A:Around} {E:Value->Shared->Prop} {s:Shared} {vs:List Value} {lt:Nat->Nat->Bool}
end
end DW
end
section
namespace L2
open PySem PySem.Spec PyProof.Rows
end L2
end
section
namespace L2
open PySem PySem.Spec PyProof.Rows
section
variable {X:Cx} {pins:List (Addr×Obj)} {σ:List (Option V)} {H:Hp} {s:Shared}
end
end L2
end
section
namespace L2
open PySem PySem.Spec PyProof.Rows
section
variable {X:Cx} {pins:List (Addr×Obj)} {σ:List (Option V)} {H:Hp} {s:Shared}
end
end L2
end
section
set_option maxHeartbeats 2000000
namespace L2
open PySem PySem.Spec PyProof.Rows
section
variable {X:Cx} {pins:List (Addr×Obj)} {σ:List (Option V)} {H:Hp} {s:Shared}
end
end L2
end
section
namespace DW
open PySem PySem.Spec PyProof.Rows L2
section
variable {X:Cx}
theorem jB {K:PySem.W.Frag} {b:String} {vs:List V} {H:Hp} {Q:VK} (h:qQ K (aV b) vs H Q) (hb:b≠"min3":=by decide):(∃ d v θ μ Qd,vs=[v]/\cF K H θ μ/\Rp K H θ μ d v/\aV b [d] μ Qd/\Fin K H θ μ Qd Q)∨∃ d e v w θ μ Qd,vs=[v,w]/\cF K H θ μ/\Rp K H θ μ d v/\Rp K H θ μ e w/\aV b [d,e] μ Qd/\Fin K H θ μ Qd Q:=by
 obtain ⟨ds,θ,μ,Qd,wk,rs,hw,f⟩:=h
 match ds,hw with
 | [],hw=>exact hw.elim
 | [d],hw =>
  obtain ⟨v,r,rfl,r1,r2⟩:=rs.cons_inv
  cases r2.nil_inv
  exact .inl ⟨d,v,θ,μ,Qd,rfl,wk,r1,hw,f⟩
 | [d,e],hw =>
  obtain ⟨v,r,rfl,r1,r2⟩:=rs.cons_inv
  obtain ⟨w,r,rfl,r3,r4⟩:=r2.cons_inv
  cases r4.nil_inv
  exact .inr ⟨d,e,v,w,θ,μ,Qd,rfl,wk,r1,r3,hw,f⟩
 | [d,e,g],hw=>exact (Vr hb hw).elim
 | _ :: _ :: _ :: _ :: _,hw=>exact hw.elim
theorem TX : bV X (.builtin "len") (qQ X.K (aV "len")) := by
  intro pins s σ H xs us Q I r h
  rcases jB h with ⟨d, v, θ, μ, Qd, rfl, wk, rd, hw, f⟩ | ⟨d, e, v, w, θ, μ, Qd, rfl, wk, rd, re, hw, f⟩
  . simp only [aV] at hw
    split at hw
    . rename_i n hn
      refine O8 pins s σ H _ us Q I r ⟨v, n, rfl, ?_, f.at wk aY hw⟩
      have seq : ∀ {ds : List D}, aG μ d = some ds -> n = ds.length -> aar X.K v H n := fun {ds} hq hl => by
        obtain ⟨a, xs, rfl, hx, r'⟩ := gk wk rd hq
        rcases hx with hx | hx
        . exact .inl ⟨xs, hx, hl.trans r'.length⟩
        . exact .inr ⟨xs, hx, hl.trans r'.length⟩
      cases d with
      | str x =>
        obtain ⟨rfl, hx⟩ := bG rd
        simp only [lenOf, Option.some.injEq] at hn
        exact ⟨by simpa [Str.length] using hx, by rw [<- hn]; simp [Str.length]⟩
      | _ =>
        simp only [lenOf] at hn
        first
          | (simp [aG] at hn; done)
          | (cases q : aG μ _ with
             | none => rw [q] at hn; cases hn
             | some ds => rw [q] at hn; simp only [Option.map_some, Option.some.injEq] at hn; exact seq q hn.symm)
    . obtain ⟨a, rfl, hw⟩ := len_dict wk rd hw
      obtain ⟨u, rfl, ru⟩ := r.one
      cases (show u = Value.ref a from ru)
      rcases hw with ⟨kvs, e, q⟩ | ⟨kvs, e, q⟩
      . exact aag I (.inl e) fun t s' I' => ⟨.int kvs.length, H, I', ⟨t, rfl⟩, f.at wk aY q⟩
      . exact XQ I e fun t s' I' => ⟨.int kvs.length, H, I', ⟨t, rfl⟩, f.at wk aY q⟩
  . simp [aV] at hw
theorem T4:bV X (.builtin "abs") (qQ X.K (aV "abs")):=by
 intro pins s σ H xs us Q I r h
 rcases jB h with ⟨d,v,θ,μ,Qd,rfl,wk,rd,hw,f⟩ | ⟨d,e,v,w,θ,μ,Qd,rfl,wk,rd,re,hw,f⟩
 ·cases d with
  | int i=>cases aF rd; exact O9 pins s σ H _ us Q I r ⟨i,rfl,f.at wk aY hw⟩
  | _=>simp [aV] at hw
 ·simp [aV] at hw
theorem T3 (hc:X.calm=true):bV X (.builtin "all") (qQ X.K (aV "all")):=by
 intro pins s σ H xs us Q I r h
 rcases jB h with ⟨d,v,θ,μ,Qd,rfl,wk,rd,hw,f⟩ | ⟨d,e,v,w,θ,μ,Qd,rfl,wk,rd,re,hw,f⟩
 ·simp only [aV] at hw
  split at hw
  ·rename_i b hb
   cases q:dX μ d with
   | none=>rw [q] at hb; cases hb
   | some ds =>
    rw [q] at hb
    obtain ⟨a,ys,rfl,hx,rs⟩:=pQ wk rd q
    obtain ⟨bs,rfl,eb⟩:=HF rs hb
    exact J4 hc pins s σ H _ us Q I r ⟨a,bs,rfl,hx,f.at wk cZ (by rw [eb]; exact hw)⟩
  ·exact hw.elim
 ·simp [aV] at hw
theorem TJ (hc:X.calm=true):bV X (.builtin "sum") (qQ X.K (aV "sum")):=by
 intro pins s σ H xs us Q I r h
 rcases jB h with ⟨d,v,θ,μ,Qd,rfl,wk,rd,hw,f⟩ | ⟨d,e,v,w,θ,μ,Qd,rfl,wk,rd,re,hw,f⟩
 ·simp only [aV] at hw
  split at hw
  ·rename_i ns hb
   cases q:aG μ d with
   | none=>rw [q] at hb; cases hb
   | some ds =>
    rw [q] at hb
    cases d with
    | tup es =>
     simp only [aG,Option.some.injEq] at q
     subst q
     obtain ⟨a,ys,rfl,hx,nl,rs⟩:=bR rd
     cases uX rs hb
     exact JT hc pins s σ H _ us Q I r ⟨a,ns,rfl,.of hx,f.at wk aY hw⟩
    | _ =>
     obtain ⟨a,ys,rfl,hx,rs⟩:=pQ (ds:=ds) wk rd (by simpa [dX] using q)
     cases uX rs hb
     exact JV hc pins s σ H _ us Q I r ⟨a,ns,rfl,hx,f.at wk aY hw⟩
  ·exact hw.elim
 ·simp [aV] at hw
theorem TV (hc:X.calm=true):bV X (.builtin "max") (qQ X.K (aV "max")):=by
 intro pins s σ H xs us Q I r h
 rcases jB h with ⟨d,v,θ,μ,Qd,rfl,wk,rd,hw,f⟩ | ⟨d,e,v,w,θ,μ,Qd,rfl,wk,rd,re,hw,f⟩
 ·simp only [aV] at hw
  split at hw
  ·rename_i n ns hb
   cases q:dX μ d with
   | none=>rw [q] at hb; cases hb
   | some ds =>
    rw [q] at hb
    obtain ⟨a,ys,rfl,hx,rs⟩:=pQ wk rd q
    cases uX rs hb
    exact JZ hc pins s σ H _ us Q I r ⟨a,n,ns,rfl,hx,f.at wk aY hw⟩
  ·exact hw.elim
 ·cases d with
  | int i =>
   cases e with
   | int j =>
    cases aF rd; cases aF re
    exact J0 hc pins s σ H _ us Q I r ⟨i,j,rfl,f.at wk aY hw⟩
   | _=>simp [aV] at hw
  | _=>simp [aV] at hw
theorem TQ (hc:X.calm=true):bV X (.builtin "min") (qQ X.K (aV "min")):=by
 intro pins s σ H xs us Q I r h
 rcases jB h with ⟨d,v,θ,μ,Qd,rfl,wk,rd,hw,f⟩ | ⟨d,e,v,w,θ,μ,Qd,rfl,wk,rd,re,hw,f⟩
 ·simp only [aV] at hw
  split at hw
  ·rename_i n ns hb
   cases q:dX μ d with
   | none=>rw [q] at hb; cases hb
   | some ds =>
    rw [q] at hb
    obtain ⟨a,ys,rfl,hx,rs⟩:=pQ wk rd q
    cases uX rs hb
    exact JW hc pins s σ H _ us Q I r ⟨a,n,ns,rfl,hx,f.at wk aY hw⟩
  ·exact hw.elim
 ·cases d with
  | int i =>
   cases e with
   | int j =>
    cases aF rd; cases aF re
    exact JX hc pins s σ H _ us Q I r ⟨i,j,rfl,f.at wk aY hw⟩
   | _=>simp [aV] at hw
  | _=>simp [aV] at hw
theorem Pq:bV X (.type "dict") (qQ X.K (aV "dict")):=by
 intro pins s σ H xs us Q I r h
 rcases jB h with ⟨d,v,θ,μ,Qd,rfl,wk,rd,hw,f⟩ | ⟨d,e,v,w,θ,μ,Qd,rfl,wk,rd,re,hw,f⟩
 ·simp only [aV] at hw
  have go:∀ (ks:List aC) (ds:List D) (a:Addr) (kvs:List (Key×V)),v = .ref a->Rd H a (.dK kvs)->kvs.map (·.1)=ks.map keyOf->gH X.K H θ μ ds (kvs.map (·.2))->Qd (.loc μ.length) (μ ++ [.cH ks ds]) ->
    wpAny (model X.prog X.w) X.A (call (.type "dict") us) (EP X pins σ Q) X.xe s:=by
   rintro ks ds a kvs rfl e h1 h2 hq
   obtain ⟨u,rfl,ru⟩:=r.one
   cases (show u=Value.ref a from ru)
   refine O2 I e fun p s' hp I'=>⟨.ref p,_,I',rfl,?_⟩
   have g:au H θ μ (upd H p (.dK kvs)) (θ ++ [p]) (μ ++ [Cell.cH ks ds]):=au.new wk hp
   refine f (.loc μ.length) (.ref p) _ (θ ++ [p]) _ (wk.new (c:=.cH ks ds) hp (show gJ X.K _ _ _ p (.cH ks ds) from ⟨kvs,aA,h1,g.reps h2⟩)) g ?_ hq
   unfold Rep
   exact ⟨p,rfl,by rw [<- wk.len]; simp⟩
  unfold Qp at hw
  split at hw
  ·obtain ⟨a,o,kvs,e0,h1,_,h2,h3⟩:=tB rd
   exact go _ _ a kvs e0 (.inr ⟨o,h1⟩) h2 h3 hw
  ·rename_i n
   obtain ⟨a,e0,ha⟩:=aO rd
   split at hw
   ·rename_i ks ds hn
    obtain ⟨kvs,h1,h2,h3⟩:=wk.cell n _ a hn ha
    exact go _ _ a kvs e0 (.inl h1) h2 h3 hw
   ·exact hw.elim
  ·exact hw.elim
 ·simp [aV] at hw
theorem Pj (hc:X.calm=true):bV X (.type "list") (qQ X.K (aV "list")):=by
 intro pins s σ H xs us Q I r h
 rcases jB h with ⟨d,v,θ,μ,Qd,rfl,wk,rd,hw,f⟩ | ⟨d,e,v,w,θ,μ,Qd,rfl,wk,rd,re,hw,f⟩
 ·simp only [aV] at hw
  split at hw
  ·rename_i ds hq
   obtain ⟨a,ys,rfl,hx,rs⟩:=gk wk rd hq
   exact zY pins s σ H _ us Q I r ⟨a,ys,rfl,hx,fun l hl=>zm wk f rs hw hl⟩
  ·exact (show False from hw).elim
 ·simp [aV] at hw
theorem Gp:bV X (.builtin "divmod") (qQ X.K (aV "divmod")):=by
 intro pins s σ H xs us Q I r h
 rcases jB h with ⟨d,v,θ,μ,Qd,rfl,wk,rd,hw,f⟩ | ⟨d,e,v,w,θ,μ,Qd,rfl,wk,rd,re,hw,f⟩
 ·simp [aV] at hw
 ·cases d with
  | int i =>
   cases e with
   | int j =>
    cases aF rd; cases aF re
    have hw:vN j/\Qd (.tup [.int (i / j),.int (i % j)]) μ:=hw
    obtain ⟨⟨h1,h2⟩,hq⟩:=hw
    obtain ⟨u,w',rfl,⟨t,rfl⟩,⟨t',rfl⟩⟩:=vals2 r
    have h3:j.natAbs < 2 ^ 500:=by lia
    have h4:j.natAbs≠0:=by lia
    have h5:=(Nat.log2_lt h4).mpr h3
    refine divmod_int (by lia) ?_ (.inl (PyProof.noPylong_of_log2 (by lia)))
    rw [Int.fdiv_eq_ediv_of_nonneg i (by lia),Int.fmod_eq_emod_of_nonneg i (by lia)]
    have hn:H s.heap.objs.size=none:=I.hok.fresh (Nat.le_refl _)
    refine ⟨.ref s.heap.objs.size,_,?_,rfl,zj wk f (xs:=[.int (i / j),.int (i % j)]) (.cons aY (.cons aY .nil)) hq hn⟩
    refine I.laid (fun b o e=>Heap.get?_push_of_some _ e) (Nat.le_refl _) ⟨by simp only [List.length_cons,List.length_nil]; rw [sizeLine_eq]; decide,[.int (i / j) s.toks,.int (i % j) (s.toks + 1)],.cons ⟨_,rfl⟩ (.cons ⟨_,rfl⟩ .nil),?_⟩
    exact ⟨_,Heap.get?_push_size s.heap rfl,rfl,0,rfl,rfl⟩
   | _=>simp [aV] at hw
  | _=>simp [aV] at hw
theorem yE {K:PySem.W.Frag} {H:Hp} {θ:List Addr} {μ:Mem} {b:Addr} {xs:List V} (wk:cF K H θ μ) (h:H b=some (.tup xs)):¬ mR θ μ b:=by
 rintro ⟨n,c,h1,h2,h3⟩
 have:=wk.cell n c b h2 h1
 cases c with
 | lst ds=>obtain ⟨_,e,_⟩:=this; rw [h] at e; cases e
 | ins c fs=>obtain ⟨_,_,_,_,e,_⟩:=this; rw [h] at e; cases e
 | cH ks ds=>obtain ⟨_,e,_⟩:=this; rw [h] at e; cases e
 | bW ks ds=>obtain ⟨_,e,_⟩:=this; rw [h] at e; cases e
 | jG o ks ds=>obtain ⟨_,e,_⟩:=this; rw [h] at e; cases e
 | fdi o ks ds=>obtain ⟨_,e,_⟩:=this; rw [h] at e; cases e
 | exc c ks ds=>obtain ⟨_,_,_,_,e,_⟩:=this; rw [h] at e; cases e
 | gone=>exact h3 rfl
 | Em=>obtain ⟨_,_,_,e,_⟩:=this; rw [h] at e; cases e
theorem xO {H:Hp} {θ:List Addr} {μ:Mem}:∀ (l:List Int),gH X.K H θ μ (l.map D.int) (l.map V.int)
 | []=>aB.nil
 | i :: l=>aB.cons aY (xO l)
theorem Hj {K:PySem.W.Frag} {H:Hp} {θ:List Addr} {μ:Mem} (wk:cF K H θ μ):∀ {kvs:List (List Key×V)} {xs:List (List Key×Addr×Value)} {r:List (List Int)},KT H kvs xs->kvs.map (·.1)=(r.map fun l=>l.map (Sum.inl:Int->aC)).map (·.map keyOf) ->
  gH K H θ μ (r.map tI) (xs.map fun q=>V.ref q.2.1)/\∀ (i:Nat) (q:List Key×Addr×Value) (l:List Int),xs[i]? = some q->r[i]? = some l->H q.2.1=some (.tup (l.map V.int))
 | [],xs,r,t,e=>by
  cases t
  have:r=[]:=by simpa using e.symm
  subst this
  exact ⟨aB.nil,fun i q l h=>by simp at h⟩
 | p :: kvs,xs,r,t,e=>by
  cases t with
  | cons h t =>
   rename_i q qs
   cases r with
   | nil=>simp at e
   | cons l r =>
    simp only [List.map_cons,List.cons.injEq] at e
    obtain ⟨i1,i2⟩:=Hj wk t e.2
    have hH:H q.2.1=some (.tup (l.map V.int)):=by
     rw [h.2.1,e.1,List.map_map,List.map_map]
     rfl
    refine ⟨?_,fun i q' l' h1 h2=>?_⟩
    ·rw [List.map_cons,List.map_cons]
     refine aB.cons ?_ i1
     unfold tI Rep
     refine ⟨_,_,rfl,hH,yE wk hH,?_⟩
     have:∀ l:List Int,aB K H θ (mR θ μ) (l.map D.int) (l.map V.int):=by
      intro l
      induction l with
      | nil=>exact aB.nil
      | cons i l ih=>exact aB.cons aY ih
     exact this l
    ·cases i with
     | zero=>simp at h1 h2; subst h1 h2; exact hH
     | succ i=>exact i2 i q' l' (by simpa using h1) (by simpa using h2)
theorem TY:bV X (.type "int") (qQ X.K (aV "int")):=by
 intro pins s σ H xs us Q I r h
 rcases jB h with ⟨d,v,θ,μ,Qd,rfl,wk,rd,hw,f⟩ | ⟨d,e,v,w,θ,μ,Qd,rfl,wk,rd,re,hw,f⟩
 ·simp only [aV] at hw
  cases d with
  | int i=>cases aF rd; exact xY pins s σ H _ us Q I r (.inl ⟨i,rfl,f.at wk aY hw⟩)
  | bl b=>cases dh rd; exact xY pins s σ H _ us Q I r (.inr ⟨b,rfl,f.at wk aY hw⟩)
  | str x =>
   obtain ⟨n,⟨hl,hn⟩,hq⟩:=hw
   obtain ⟨rfl,_⟩:=bG rd
   obtain ⟨u,rfl,ru⟩:=vals1 r
   obtain ⟨t,rfl⟩:=ru
   exact PySem.W.KIN.call_text hn (by simpa [Str.length] using hl) ⟨.int n,H,I.tok _,⟨_,rfl⟩,f.at wk aY hq⟩
  | _=>exact hw.elim
 ·simp [aV] at hw
theorem Ry {x:String} {as:List Expr} {ws:WA} {y:Str} {p pos:Pos} {e:Expr} {es:List Expr} (hx:x∈zB) (ey:y=Pg x) (hc:X.calm=true) (hrm:∃ k,bU k X.A) (g:Gl X y) (m:X.mg y=none) (ha:PA X (e :: es) (LA X.K ws))
  (hs:starEach (e :: es) X.env=(false,eval e X.env) :: starEach es X.env) (hpl:(backTo pos (starEach es X.env)).any (·.1)=false) :
  PE X (.Call (.Name y p) (e :: es) [] pos) (LE X.K fun ρ μ Q=>ws ρ μ fun ds μ1=>aV x ds μ1 Q):=by
 have wk:∀ {f:Value},PE X (.Call (.Name y p) (e :: es) [] pos) (tCB (qQ X.K (aV x)) (LA X.K ws))->PE X (.Call (.Name y p) (e :: es) [] pos) (LE X.K fun ρ μ Q=>ws ρ μ fun ds μ1=>aV x ds μ1 Q):=fun h=>PE.wk h fun σ H Q z=>Sd z
 subst ey
 simp only [zB,List.mem_cons,List.not_mem_nil,or_false] at hx
 rcases hx with rfl | rfl | rfl | rfl | rfl | rfl | rfl | rfl | rfl | rfl
 ·exact wk (f:=.none) (dW TX g m (by decide +kernel) ha (by decide +kernel) (by decide +kernel) hs hpl)
 ·exact wk (f:=.none) (dW T4 g m (by decide +kernel) ha (by decide +kernel) (by decide +kernel) hs hpl)
 ·exact wk (f:=.none) (dW (T3 hc) g m (by decide +kernel) ha (by decide +kernel) (by decide +kernel) hs hpl)
 ·exact wk (f:=.none) (dW (TJ hc) g m (by decide +kernel) ha (by decide +kernel) (by decide +kernel) hs hpl)
 ·exact wk (f:=.none) (dW (TV hc) g m (by decide +kernel) ha (by decide +kernel) (by decide +kernel) hs hpl)
 ·exact wk (f:=.none) (dW (TQ hc) g m (by decide +kernel) ha (by decide +kernel) (by decide +kernel) hs hpl)
 ·exact wk (f:=.none) (qM (Pj hc) g m (by decide +kernel) ha (by decide +kernel) (by decide +kernel) hs hpl)
 ·exact wk (f:=.none) (dW Gp g m (by decide +kernel) ha (by decide +kernel) (by decide +kernel) hs hpl)
 ·exact wk (f:=.none) (qM TY g m (by decide +kernel) ha (by decide +kernel) (by decide +kernel) hs hpl)
 ·exact wk (f:=.none) (qM Pq g m (by decide +kernel) ha (by decide +kernel) (by decide +kernel) hs hpl)
end
end DW
end
section
namespace L2
open PySem PySem.Spec PyProof.Rows
theorem jE {env:Env}:∀ (names:List (Str×NameKind)) (acc:List (Str×Addr)),(∀ y∈names,y.2 = .free->∃ c,env.cells.lookup y.1=some c) ->
  (∀ y c,acc.lookup y=some c->env.cells.lookup y=some c) ->
  ∃ cl:List (Str×Addr),(forIn names acc fun (x:Str×NameKind) (r:List (Str×Addr))=>match x with
   | (name,kind)=>if (kind == .free)=true then (do let c <- cellOf env name; pure (ForInStep.yield ((name,c) :: r))) else pure (ForInStep.yield r))=(pure cl:Sem (List (Str×Addr))) /\
   (∀ y c,cl.lookup y=some c->env.cells.lookup y=some c)/\(∀ y,(acc.lookup y).isSome=true->(cl.lookup y).isSome=true)/\∀ y∈names,y.2 = .free->(cl.lookup y.1).isSome=true
 | [],acc,_,h2=>⟨acc,by simp,h2,fun _ h=>h,fun y hy=>nomatch hy⟩
 | (n,k) :: r,acc,h1,h2=>by
  by_cases hk:k = .free
  ·subst hk
   obtain ⟨c,hc⟩:=h1 (n,.free) List.mem_cons_self rfl
   obtain ⟨cl,e1,e2,e3,e4⟩:=jE r ((n,c) :: acc) (fun y hy=>h1 y (List.mem_cons_of_mem _ hy)) (fun y d hy=>by
    rw [List.lookup_cons] at hy
    split at hy
    ·rename_i hb
     rw [eq_of_beq hb]; cases hy; exact hc
    ·exact h2 y d hy)
   refine ⟨cl,?_,e2,fun y hy=>e3 y ?_,fun y hy hf=>?_⟩
   ·rw [List.forIn_cons]
    simp only [beq_self_eq_true,if_true]
    have:cellOf env n=pure c:=by unfold cellOf; rw [hc]
    rw [this,pure_bind,pure_bind]
    exact e1
   ·rw [List.lookup_cons]; split <;> simp_all
   ·rcases List.mem_cons.mp hy with rfl | hy
    ·exact e3 n (by simp [List.lookup_cons])
    ·exact e4 y hy hf
  ·obtain ⟨cl,e1,e2,e3,e4⟩:=jE r acc (fun y hy=>h1 y (List.mem_cons_of_mem _ hy)) h2
   refine ⟨cl,?_,e2,e3,fun y hy hf=>?_⟩
   ·rw [List.forIn_cons]
    have hb:(k == NameKind.free)=false:=by simpa using hk
    simp only [hb,Bool.false_eq_true,if_false]
    rw [pure_bind]
    exact e1
   ·rcases List.mem_cons.mp hy with rfl | hy
    ·exact absurd hf hk
    ·exact e4 y hy hf
theorem sy {scope:Scope} {env:Env} (h:∀ y∈scope.names,y.2 = .free->∃ c,env.cells.lookup y.1=some c) :
  ∃ cl,closureFor scope env=pure cl/\(∀ y c,cl.lookup y=some c->env.cells.lookup y=some c)/\∀ y∈scope.names,y.2 = .free->(cl.lookup y.1).isSome=true:=by
 obtain ⟨cl,e1,e2,_,e4⟩:=jE scope.names [] h (fun y c hy=>by simp at hy)
 refine ⟨cl,?_,e2,e4⟩
 unfold closureFor
 simp only [bind_pure]
 exact e1
noncomputable def jo (X:Cx) (Nc:List Str) (scope:Scope) (cl:List (Str×Addr)) (C:Addr) (s:Shared) (H:Hp) (ex:List Addr):Cx :=
 { X with N:=Nc,s₀:=s,H₀:=H,env:=compEnvC scope cl C X.env,outer:=X.stack,ex:=ex,fn:=fun y=>scope.names.lookup y == some .cell,pn:=[],xe:=fun _ _=>False }
noncomputable def Yh (X:Cx) (ifs:List Expr) (t:TT):Prop :=
 ∀ (pins:List (Addr×Obj)) (s:Shared) (σ:St) (H:Hp) (Q:Bool->Hp->Prop),Inv X pins σ H s->t σ H Q ->
  wpAny (model X.prog X.w) X.A (forIn ifs true fun c r=>if r=true then do let ok <- isTrue c X.env (eval c X.env); pure (ForInStep.yield ok) else pure (ForInStep.yield r)) (TP X pins σ Q) X.xe s
theorem Rc {X:Cx}:Yh X [] (fun σ H Q=>Q true H):=fun pins s σ H Q I h=>by
 rw [List.forIn_nil]; exact wpAny_pure ⟨H,I,h⟩
theorem Rb {X:Cx} {c:Expr} {t:TT} (hc:PT X c t):Yh X [c] t:=fun pins s σ H Q I h=>by
 rw [List.forIn_cons]
 simp only [if_true]
 refine wpAny_bind (wpAny_bind (bL (hc pins s σ H Q I h) fun b s1 q=>wpAny_pure ?_))
 show wpAny _ _ (forIn ([]:List Expr) b _) _ _ _
 rw [List.forIn_nil]; exact wpAny_pure q
noncomputable def wR (cap:List Nat) (σ:St):St:=cap.map fun i=>(σ[i]?).join
noncomputable def Lf (n:Nat) (gt:TG) (cap:List Nat) (wi:TI) (tt:TT) (te:TE):TE:=fun σ H Q=>wi σ H fun J H1=>∃ W:Nat->Nat->List V->St->Hp->Prop,(∃ m,W 0 m [] (List.replicate n none ++ wR cap σ) H1)/\∀ i m vs σc H,W i m vs σc H ->
 (vs.length<=sizeLine/\J.stop i H/\∀ p,H p=none->Q (.ref p) (upd H p (.lst vs))) ∨
 (J.go i H/\vs.length < sizeLine/\∀ x H',J.Yx i H x H'->gt x σc H' fun σ2 H2=>tt σ2 H2 fun b H3 =>
  if b=true then te σ2 H3 fun v H4=>∃ m',m' < m/\W (i + 1) m' (vs ++ [v]) σ2 H4 else ∃ m',m' < m/\W (i + 1) m' vs σ2 H3)
structure nj (X:Cx) (xs:List Str) (scope:Scope) (Nc:List Str) (cap:List Nat):Prop where
 kind:scope.kind = .function
 cells:∀ y∈scope.names,y.2 = .cell->scope.names.lookup y.1=some .cell
 names:∀ y∈scope.names,y.2 = .local->scope.names.lookup y.1=some .local
 nd:Nc.Nodup
 caps:∀ (j:Nat) (y:Str),Nc[xs.length + j]? = some y->∃ i,cap[j]? = some i/\X.N[i]? = some y/\scope.names.lookup y=some .free
 len:Nc.length=xs.length + cap.length
 free:∀ y∈scope.names,y.2 = .free->X.env.kindOf y.1=some .cell∨X.env.kindOf y.1=some .free
theorem gR {env:Env}:∀ {names:List (Str×NameKind)} {x:Str},names.lookup x=some .free ->
  (names.map fun (n,k)=>if (k == NameKind.free && env.scope.kind == .function && env.kindOf n == some .cell) then (n,NameKind.cell) else (n,k)).lookup x=some .free ∨
  (names.map fun (n,k)=>if (k == NameKind.free && env.scope.kind == .function && env.kindOf n == some .cell) then (n,NameKind.cell) else (n,k)).lookup x=some .cell
 | [],_,h=>by simp at h
 | (n,k) :: r,x,h=>by
  have ih:=@gR env r x
  show List.lookup x ((if (k == NameKind.free && env.scope.kind == .function && env.kindOf n == some .cell)=true then (n,NameKind.cell) else (n,k)) :: _)=_∨List.lookup x ((if (k == NameKind.free && env.scope.kind == .function && env.kindOf n == some .cell)=true then (n,NameKind.cell) else (n,k)) :: _)=_
  by_cases hc:(k == NameKind.free && env.scope.kind == .function && env.kindOf n == some .cell)=true
  ·rw [if_pos hc]
   cases hx:x == n with
   | true=>right; simp only [List.lookup_cons,hx]
   | false =>
    simp only [List.lookup_cons,hx] at h ⊢
    exact ih h
  ·rw [if_neg hc]
   cases hx:x == n with
   | true =>
    simp only [List.lookup_cons,hx] at h ⊢
    exact .inl h
   | false =>
    simp only [List.lookup_cons,hx] at h ⊢
    exact ih h
theorem nH {env:Env}:∀ {names:List (Str×NameKind)} {x:Str},names.lookup x=some .globalImplicit ->
  (names.map fun (n,k)=>if (k == NameKind.free && env.scope.kind == .function && env.kindOf n == some .cell) then (n,NameKind.cell) else (n,k)).lookup x=some .globalImplicit
 | [],_,h=>by simp at h
 | (n,k) :: r,x,h=>by
  have ih:=@nH env r x
  show List.lookup x ((if (k == NameKind.free && env.scope.kind == .function && env.kindOf n == some .cell)=true then (n,NameKind.cell) else (n,k)) :: _)=_
  by_cases hc:(k == NameKind.free && env.scope.kind == .function && env.kindOf n == some .cell)=true
  ·rw [if_pos hc]
   cases hx:x == n with
   | true =>
    simp only [List.lookup_cons,hx] at h
    have:k = .free:=by
     rw [Bool.and_eq_true,Bool.and_eq_true] at hc
     simpa using hc.1.1
    rw [this] at h; cases h
   | false =>
    simp only [List.lookup_cons,hx] at h ⊢
    exact ih h
  ·rw [if_neg hc]
   cases hx:x == n with
   | true =>
    simp only [List.lookup_cons,hx] at h ⊢
    exact h
   | false =>
    simp only [List.lookup_cons,hx] at h ⊢
    exact ih h
theorem yQ {scope:Scope} {env:Env} {x:Str} (h:scope.names.lookup x=some .globalImplicit):(relabel scope env).names.lookup x=some .globalImplicit:=nH h
theorem pJ {env:Env}:∀ {names:List (Str×NameKind)} {x:Str},names.lookup x=some .cell ->
  (names.map fun (n,k)=>if (k == NameKind.free && env.scope.kind == .function && env.kindOf n == some .cell) then (n,NameKind.cell) else (n,k)).lookup x=some .cell
 | [],_,h=>by simp at h
 | (n,k) :: r,x,h=>by
  have ih:=@pJ env r x
  show List.lookup x ((if (k == NameKind.free && env.scope.kind == .function && env.kindOf n == some .cell)=true then (n,NameKind.cell) else (n,k)) :: _)=_
  by_cases hc:(k == NameKind.free && env.scope.kind == .function && env.kindOf n == some .cell)=true
  ·rw [if_pos hc]
   cases hx:x == n with
   | true=>simp only [List.lookup_cons,hx]
   | false =>
    simp only [List.lookup_cons,hx] at h ⊢
    exact ih h
  ·rw [if_neg hc]
   cases hx:x == n with
   | true =>
    simp only [List.lookup_cons,hx] at h ⊢
    exact h
   | false =>
    simp only [List.lookup_cons,hx] at h ⊢
    exact ih h
theorem fQ:∀ (names:List (Str×NameKind)) (n:Nat) (acc:List (Str×Addr)),cellsFrom n names acc=cellsFrom n names [] ++ acc
 | [],n,acc=>rfl
 | (x,k) :: r,n,acc=>by
  unfold cellsFrom
  split
  ·rw [fQ r (n + 1) ((x,n) :: acc),fQ r (n + 1) [(x,n)]]; simp
  ·exact fQ r n acc
theorem rA:∀ (names:List (Str×NameKind)) (n:Nat) (y:Str) (c:Addr),(y,c)∈cellsFrom n names []->(y,NameKind.cell)∈names
 | [],n,y,c,h=>by simp [cellsFrom] at h
 | (x,k) :: r,n,y,c,h=>by
  unfold cellsFrom at h
  split at h
  ·rename_i hk
   rw [fQ] at h
   rcases List.mem_append.mp h with z | z
   ·exact List.mem_cons_of_mem _ (rA r _ y c z)
   ·simp only [List.mem_cons,List.not_mem_nil,or_false,Prod.mk.injEq] at z
    obtain ⟨rfl,_⟩:=z
    rw [eq_of_beq hk]; exact List.mem_cons_self
  ·exact List.mem_cons_of_mem _ (rA r _ y c h)
theorem m8:∀ (names:List (Str×NameKind)) (n:Nat) (y:Str),(y,NameKind.cell)∈names->((cellsFrom n names []).lookup y).isSome=true
 | [],n,y,h=>by simp at h
 | (x,k) :: r,n,y,h=>by
  unfold cellsFrom
  rcases List.mem_cons.mp h with z | z
  ·cases z
   rw [if_pos (by rfl),fQ,List.lookup_append]
   cases q:(cellsFrom (n + 1) r []).lookup x with
   | some c=>rfl
   | none=>simp [List.lookup_cons]
  ·split
   ·rw [fQ,List.lookup_append]
    have:=m8 r (n + 1) y z
    obtain ⟨c,e⟩:=Option.isSome_iff_exists.mp this
    rw [e]; rfl
   ·exact m8 r n y z
theorem BL {M:Model} {A:Around} {E:Value->Shared->Prop} {s:Shared} {scope:Scope} {globals:Addr} {cl:List (Str×Addr)} {qual:Str} {env:Env} {Q:Env->Shared->Prop}
  (hQ:Q (newEnv scope s.heap.objs.size globals (cellsFrom (s.heap.objs.size + 1) scope.names cl) qual none .none (some env) builtinsNs) { s with heap:=pushCells (s.heap.push { cls:=.type "dict",data:=.dict #[] }) scope.names }) :
  wpAny M A (newFunctionEnv scope globals cl [] qual none .none (some env)) Q E s:=by
 simp only [newFunctionEnv,Option.isSome_some,if_true]
 refine wpAny_bind (wpAny_alloc ?_)
 refine wpAny_bind (wpAny_layCells _ (fun name kind cells=>by cases hkc:kind == NameKind.cell <;> simp [hkc]) _ _ _ _ ?_)
 rw [show ({ s with heap:=s.heap.push { cls:=.type "dict",data:=.dict #[] } }:Shared).heap.objs.size=s.heap.objs.size + 1 from Heap.size_push ..]
 rw [List.forIn_nil]
 exact wpAny_bind (wpAny_pure (wpAny_pure hQ))
theorem iJ {env:Env}:∀ {names:List (Str×NameKind)} {x:Str} {k:NameKind},
  (names.map fun (n,k)=>if (k == NameKind.free && env.scope.kind == .function && env.kindOf n == some .cell) then (n,NameKind.cell) else (n,k)).lookup x=some k ->
  names.lookup x=some k∨(k = .cell/\names.lookup x=some .free)
 | [],_,_,h=>by simp at h
 | (n,k0) :: r,x,k,h=>by
  have ih:=@iJ env r x k
  have h':List.lookup x ((if (k0 == NameKind.free && env.scope.kind == .function && env.kindOf n == some .cell)=true then (n,NameKind.cell) else (n,k0)) :: (r.map fun (n,k)=>if (k == NameKind.free && env.scope.kind == .function && env.kindOf n == some .cell) then (n,NameKind.cell) else (n,k)))=some k:=h
  by_cases hc:(k0 == NameKind.free && env.scope.kind == .function && env.kindOf n == some .cell)=true
  ·rw [if_pos hc] at h'
   cases hx:x == n with
   | true =>
    simp only [List.lookup_cons,hx] at h' ⊢
    cases h'
    have:k0 = .free:=by
     rw [Bool.and_eq_true,Bool.and_eq_true] at hc
     simpa using hc.1.1
    exact .inr ⟨rfl,by rw [this]⟩
   | false =>
    simp only [List.lookup_cons,hx] at h' ⊢
    exact ih h'
  ·rw [if_neg hc] at h'
   cases hx:x == n with
   | true =>
    simp only [List.lookup_cons,hx] at h' ⊢
    exact .inl h'
   | false =>
    simp only [List.lookup_cons,hx] at h' ⊢
    exact ih h'
end L2
namespace L2
open PySem PySem.Spec PyProof.Rows
section
variable {X:Cx} {elt iter tg:Expr} {xs:List Str} {gt:TG} {ifs:List Expr} {scope:Scope} {pos:Pos} {Nc:List Str} {cap:List Nat} {tt:TT} {te:TE} {cl:List (Str×Addr)}
 {pins:List (Addr×Obj)} {s2:Shared} {σ:St} {H2:Hp} {it:Addr} {fp:List Addr} {tn:Nat->Heap->Prop} {J:It}
noncomputable abbrev listAt (h:Heap) (D:Addr) (vs:List V):Prop:=∃ (its:List Value) (n:Nat),Vals vs its/\h.get? D=some { cls:=.type "list",data:=.seq its.toArray n }
theorem Gm {prog:Program} {w:World} {A:Around} {R:Result->Shared->Prop} {s:Shared} {elt tg iter:Expr} {ifs:List Expr} {scope:Scope} {pos:Pos} {it acc:Value} {env:Env} (J:Nat->Shared->Prop)
  (turn:∀ m s0,J m s0->wpAny (model prog w) A (pyNext it) (fun r s1=>match r with
   | none=>R (.ok .next) s1
   | some v=>wpAny (model prog w) A (letOwnedTupleGo tg it v) (fun _ s2=>wpAny (model prog w) A (assign tg env v) (fun _ s3 =>
     wpAny (model prog w) A (forIn ifs true fun c r=>if r=true then do let ok <- isTrue c env (eval c env); pure (ForInStep.yield ok) else pure (ForInStep.yield r)) (fun b s4 =>
      if b=true then wpAny (model prog w) A (eval elt env) (fun x s5 =>
       wpAny (model prog w) A (call (.builtin "list.append") [acc,x]) (fun _ s6=>∃ k,k < m/\J k s6) (notedBy (model prog w) A env fun e z=>R (.error e) z) s5) (notedBy (model prog w) A env fun e z=>R (.error e) z) s4
      else ∃ k,k < m/\J k s4) (notedBy (model prog w) A env fun e z=>R (.error e) z) s3) (notedBy (model prog w) A env fun e z=>R (.error e) z) s2) (notedBy (model prog w) A env fun e z=>R (.error e) z) s1) (notedBy (model prog w) A env fun e z=>R (.error e) z) s0)
  (m:Nat) (h:J m s):codeAny (model prog w) A (.compLoop (.ListComp elt [⟨tg,iter,ifs,0⟩] scope pos) 0 it acc env) R s:=by
 refine codeAny_loop rfl J ?_ m h
 intro m s0 h0
 have q:=turn m s0 h0
 show wpAny _ A (Sem.onRaise (compTurn (.ListComp elt [⟨tg,iter,ifs,0⟩] scope pos) 0 it acc env) _) _ _ s0
 apply wpAny_noted
 rw [compTurn_list]
 apply wpAny_bind
 apply wpAny_standAt
 refine wpAny_bind (bL q ?_)
 rintro (_ | v) s1 q
 ·exact wpAny_pure q
 refine wpAny_bind (bL q ?_)
 intro _ s2 q
 refine wpAny_bind (bL q ?_)
 intro _ s3 q
 refine wpAny_bind (bL q ?_)
 rintro (_ | _) s4 q
 ·exact wpAny_pure ⟨rfl,q⟩
 refine wpAny_bind (wpAny_bind (bL q ?_))
 intro x s5 q
 refine wpAny_bind (bL q ?_)
 intro _ s6 q
 exact wpAny_pure (wpAny_pure ⟨rfl,q⟩)
theorem Gk (T:nj X xs scope Nc cap) {h₁:Heap} {o:Obj} (hcl:∀ y c,cl.lookup y=some c->(scope.names.lookup y≠some .cell/\X.env.cells.lookup y=some c)∨(scope.names.lookup y=some .cell/\(s2.heap.push o).objs.size < c/\h₁.IsCell c none)) (Xu:∀ y z c,cl.lookup y=some c->cl.lookup z=some c->y=z) (FZ:∀ y∈scope.names,(y.2 = .free∨y.2 = .cell)->(cl.lookup y.1).isSome=true)
  (I2:Inv X pins σ H2 s2) (st2:tn 0 s2.heap) (Tn:Turn X.calm X.prog X.w X.K tg J fp it tn) (f2:∀ b∈fp,vK X pins H2 b) {m:Str->Option Value} {tk:Nat}
  (ho:∀ v,o.data≠.cell v)
  (hns:h₁.Ns (s2.heap.push o).objs.size m) (old:∀ b ob,(s2.heap.push o).get? b=some ob->h₁.get? b=some ob) :
  Inv (jo X Nc scope cl (s2.heap.push o).objs.size { s2 with heap:=s2.heap.push o } H2 (s2.heap.objs.size :: fp)) [] (List.replicate xs.length none ++ wR cap σ) H2 { s2 with heap:=h₁,toks:=tk }:=by
 have hC:(s2.heap.push o).objs.size=s2.heap.objs.size + 1:=Heap.size_push ..
 have WR:∀ b ob,s2.heap.get? b=some ob->h₁.get? b=some ob:=fun b ob e=>old b ob (Heap.get?_push_of_some _ e)
 have hfr:∀ b,s2.heap.objs.size<=b->H2 b=none:=fun b hb=>I2.hok.fresh hb
 have vo:∀ y c,X.env.cells.lookup y=some c->c < s2.heap.objs.size:=fun y c e=>let ⟨v,q⟩:=I2.cell y c e; q.lt
 have aac:∀ b∈fp,b < s2.heap.objs.size:=fun b hb=>let ⟨ob,e,_⟩:=Tn.obj 0 s2.heap st2 b hb; Heap.lt_size e
 have kinds:∀ y,((compEnvC scope cl (s2.heap.push o).objs.size X.env).kindOf y=some .cell∨(compEnvC scope cl (s2.heap.push o).objs.size X.env).kindOf y=some .free)->scope.names.lookup y=some .free∨scope.names.lookup y=some .cell:=fun y hy=>by
  rcases hy with hy | hy
  ·rcases iJ (env:=X.env) (show (scope.names.map _).lookup y=some .cell from hy) with z | ⟨_,z⟩
   ·exact .inr z
   ·exact .inl z
  ·rcases iJ (env:=X.env) (show (scope.names.map _).lookup y=some .free from hy) with z | ⟨z,_⟩
   ·exact .inl z
   ·cases z
 refine ⟨⟨I2.ok.mod,T.kind,I2.ok.glob,I2.ok.blt,Nat.le_refl _,Xu,fun y hy=>?_,fun y c h h2=>?cab,I2.ok.hd,I2.ok.frames,.inl rfl,fun b hb=>?_,fun b ob e=>?_,?_,fun b ob e hb=>?_,fun b hb hf=>?_,?_,fun b hb=>I2.yN b hb⟩,
  rfl,I2.bare,Un.kept old,⟨m,hns,fun i y v h1 h2 h3=>?_⟩,fun y c h=>?_,hfr _ (by show s2.heap.objs.size<=(s2.heap.push o).objs.size; lia),fun y c h=>?cD,fun p hp=>absurd (show p∈([]:List (Addr×Obj)) from hp) (by simp),I2.hok.kept WR,?_,I2.hh⟩
 case cab =>
  have h:scope.names.lookup y=some .cell:=eq_of_beq h
  rcases hcl y c h2 with ⟨z,_⟩ | ⟨_,z,_⟩
  ·exact absurd h z
  ·exact Nat.le_of_lt z
 case cD =>
  rcases hcl y c h with ⟨_,z⟩ | ⟨_,z,_⟩
  ·exact I2.cD y c z
  ·exact hfr c (by lia)
 ·rcases kinds y hy with z | z
  ·exact Option.isSome_iff_exists.mp (FZ _ (PySem.mem_of_lookup z) (.inl rfl))
  ·exact Option.isSome_iff_exists.mp (FZ _ (PySem.mem_of_lookup z) (.inr rfl))
 ·refine ⟨?_,fun y c h z=>?_⟩
  ·show b≠(s2.heap.push o).objs.size
   rcases List.mem_cons.mp hb with rfl | hb
   ·exact Nat.ne_of_lt (by rw [hC]; exact Nat.lt_succ_self _)
   ·exact Nat.ne_of_lt (by rw [hC]; exact Nat.lt_succ_of_lt (aac b hb))
  ·rcases hcl y c h with ⟨_,w⟩ | ⟨_,w,_⟩
   ·have hc:=vo y c w
    subst z
    rcases List.mem_cons.mp hb with rfl | hb
    ·exact Nat.lt_irrefl _ hc
    ·exact (f2 _ hb).2.2.2.2.1 y _ w rfl
   ·subst z
    rcases List.mem_cons.mp hb with rfl | hb
    ·lia
    ·exact Nat.lt_irrefl _ (Nat.lt_trans (aac _ hb) (Nat.lt_trans (by rw [hC]; exact Nat.lt_succ_self _) w))
 ·have:=I2.bs b ob e
  exact ⟨Heap.get?_push_of_some _ this.1,this.2⟩
 ·show X.base.objs.size<=(s2.heap.push o).objs.size
  have:=Nat.le_trans I2.ok.J5 I2.sz
  lia
 ·have h1:=(I2.bs b ob e).1
  rcases List.mem_cons.mp hb with rfl | hb
  ·exact Nat.lt_irrefl _ (Heap.lt_size h1)
  ·rcases (f2 b hb).2.2.2.1 with z | z
   ·exact I2.ok.BJ b ob e z
   ·have h3:b < X.base.objs.size:=Heap.lt_size e
    have h4:=I2.ok.J5
    exact absurd (Nat.lt_of_lt_of_le h3 (Nat.le_trans h4 z)) (Nat.lt_irrefl _)
 ·show False
  rcases List.mem_cons.mp hb with rfl | hb
  ·obtain ⟨_,ob,e,_⟩:=I2.stack.mem hf
   exact Nat.lt_irrefl _ (Heap.lt_size e)
  ·rcases List.mem_cons.mp (I2.yM b hf) with z | z
   ·exact (f2 b hb).2.1 z
   ·exact (f2 b hb).2.2.1 z
 ·exact (I2.stack:s2.heap.FunFrames X.base X.stack).of_keeps (fun b ob e _=>⟨ob,Heap.get?_push_of_some _ e,rfl⟩)
 ·by_cases hix:i < xs.length
  ·rw [List.getElem?_append_left (by simpa using hix),List.getElem?_replicate] at h2
   split at h2 <;> cases h2
  ·obtain ⟨j,rfl⟩:∃ j,i=xs.length + j:=⟨i - xs.length,by lia⟩
   obtain ⟨i',e1,e2,e3⟩:=T.caps j y h1
   have hv:σ[i']? = some (some v):=by
    have h2':(wR cap σ)[j]? = some (some v):=by
     rw [List.getElem?_append_right (by simp)] at h2
     simpa using h2
    unfold wR at h2'
    rw [List.getElem?_map,e1] at h2'
    simp only [Option.map_some,Option.some.injEq] at h2'
    cases q:σ[i']? with
    | none=>rw [q] at h2'; cases h2'
    | some w'=>rw [q] at h2'; simp only [Option.join_some] at h2'; rw [h2']
   obtain ⟨mo,hno,hlo⟩:=I2.loc
   have hk:=T.free _ (PySem.mem_of_lookup e3) rfl
   have vis:Vis X.env.scope y:=by rcases hk with k | k; exact .inr (.inl k); exact .inr (.inr k)
   obtain ⟨u,r,l⟩:=hlo i' y v e2 hv vis
   refine ⟨u,r,.inr ⟨?_,?_⟩⟩
   ·exact (gR (env:=X.env) e3).symm
   ·rcases l with ⟨k,_⟩ | ⟨_,c,e,z⟩
    ·rcases hk with k' | k' <;> (rw [k] at k'; cases k')
    ·obtain ⟨c',ec⟩:=Option.isSome_iff_exists.mp (FZ _ (PySem.mem_of_lookup e3) (.inl rfl))
     have ew:X.env.cells.lookup y=some c':=by
      rcases hcl y c' ec with ⟨_,w⟩ | ⟨w,_⟩
      ·exact w
      ·rw [e3] at w; cases w
     have e':some c=some c':=e.symm.trans ew
     cases e'
     obtain ⟨oc,q1,q2⟩:=z
     exact ⟨c,ec,oc,WR _ _ q1,q2⟩
 ·rcases hcl y c h with ⟨_,w⟩ | ⟨_,_,w⟩
  ·obtain ⟨v,oc,q1,q2⟩:=I2.cell y c w
   exact ⟨v,oc,WR _ _ q1,q2⟩
  ·exact ⟨none,w⟩
 ·show (List.replicate xs.length none ++ wR cap σ).length=Nc.length
  rw [T.len]
  simp [wR]
theorem comp_back (I2:Inv X pins σ H2 s2) (f2:∀ b∈fp,vK X pins H2 b) {o:Obj} {σ':St} {H:Hp} {s':Shared} {rF:List (Addr×Obj)} {vs:List V} {h':Heap}
  (I:Inv (jo X Nc scope cl (s2.heap.push o).objs.size { s2 with heap:=s2.heap.push o } H2 (s2.heap.objs.size :: fp)) rF σ' H s') (hD:H s2.heap.objs.size=none) (hz:vs.length<=sizeLine) (hl:listAt s'.heap s2.heap.objs.size vs)
  (hs:Heap.SameBut (s2.heap.push o).objs.size s'.heap h'):Inv X pins σ (upd H s2.heap.objs.size (.lst vs)) { s' with heap:=h' }:=by
 have hC:(s2.heap.push o).objs.size=s2.heap.objs.size + 1:=Heap.size_push ..
 have hk:∀ b ob,b≠(s2.heap.push o).objs.size->s'.heap.get? b=some ob->h'.get? b=some ob:=fun b ob hb e=>(hs.2 b hb).trans e
 have B:Un (frs X.stack) (s2.heap.objs.size :: fp) H2 H (s2.heap.push o) s'.heap:=I.base
 have low:∀ b ob,s2.heap.get? b=some ob->b≠s2.heap.objs.size/\b≠(s2.heap.push o).objs.size:=fun b ob e=>by
  have:=Heap.lt_size e
  exact ⟨Nat.ne_of_lt this,Nat.ne_of_lt (by rw [hC]; exact Nat.lt_succ_of_lt this)⟩
 have nin:∀ b ob,s2.heap.get? b=some ob->b ∉ fp->b ∉ s2.heap.objs.size :: fp:=fun b ob e h z=>(List.mem_cons.mp z).elim (low b ob e).1 h
 refine I2.call' (ch:=fp) I.os ⟨fun b ob e n hf he=>?_,fun b ob e n hf he=>?_,fun b ob e n he=>?_,fun b ob e he=>?_,fun b xs e=>?_,fun b ob u e=>?_,fun b ps e=>?_⟩ ?_ I.bare fun b hb=>⟨(f2 b hb).2.2.2.1,(f2 b hb).2.1,(f2 b hb).2.2.2.2.1,(f2 b hb).2.2.2.2.2⟩
 ·exact hk b ob (low b ob e).2 (B.keep b ob (Heap.get?_push_of_some _ e) n hf (nin b ob e he))
 ·obtain ⟨sl,q⟩:=B.slot b ob (Heap.get?_push_of_some _ e) n hf (nin b ob e he)
  exact ⟨sl,hk b _ (low b ob e).2 q⟩
 ·rw [aq (low b ob e).1]
  exact B.free b ob (Heap.get?_push_of_some _ e) n (nin b ob e he)
 ·obtain ⟨o',q⟩:=B.there b ob (Heap.get?_push_of_some _ e) (nin b ob e he)
  exact ⟨o',hk b _ (low b ob e).2 q⟩
 ·have q:=B.tups b xs e
  rw [aq (bh q hD)]; exact q
 ·have q:=B.iu b ob u e
  rw [aq (bh q hD)]; exact q
 ·obtain ⟨more,q⟩:=B.jA b ps e
  exact ⟨more,by rw [aq (bh q hD)]; exact q⟩
 ·intro b ob e
  have hCn:H (s2.heap.push o).objs.size=none:=I.free
  by_cases hb:b=s2.heap.objs.size
  ·subst hb
   rw [aA] at e
   cases e
   obtain ⟨its,n,r,q⟩:=hl
   exact ⟨hz,its,n,r,hk _ _ (Nat.ne_of_lt (by rw [hC]; exact Nat.lt_succ_self _)) q⟩
  ·rw [aq hb] at e
   refine (I.hok b ob e).stay (fun c u hc q=>hk c u ?_ q) (fun c q=>?_) fun c xs q=>?_
   ·rintro rfl
    rcases hc with rfl | hc
    ·rw [hCn] at e; cases e
    ·rw [hCn] at hc; cases hc
   ·rw [aq (bh q hD)]; exact q
   ·rw [aq (bh q hD)]; exact q
theorem Dk (T:nj X xs scope Nc cap) (hcl:∀ y c,cl.lookup y=some c->X.env.cells.lookup y=some c) (FZ:∀ y∈scope.names,y.2 = .free->(cl.lookup y.1).isSome=true)
  (I2:Inv X pins σ H2 s2) (st2:tn 0 s2.heap) (Tn:Turn X.calm X.prog X.w X.K tg J fp it tn) (f2:∀ b∈fp,vK X pins H2 b)
  (hG:∀ cl C s H ex,PG (jo X Nc scope cl C s H ex) tg gt) (hT:∀ cl C s H ex,Yh (jo X Nc scope cl C s H ex) ifs tt) (hE:∀ cl C s H ex,PE (jo X Nc scope cl C s H ex) elt te)
  (W:Nat->Nat->List V->St->Hp->Prop) {m0:Nat} (w0:W 0 m0 [] (List.replicate xs.length none ++ wR cap σ) H2) {Fn:List V->Hp->Prop}
  (turn:∀ i m vs σc H,W i m vs σc H->(vs.length<=sizeLine/\J.stop i H/\Fn vs H) ∨
   (J.go i H/\vs.length < sizeLine/\∀ x H',J.Yx i H x H'->gt x σc H' fun σ2 H2=>tt σ2 H2 fun b H3 =>
    if b=true then te σ2 H3 fun v H4=>∃ m',m' < m/\W (i + 1) m' (vs ++ [v]) σ2 H4 else ∃ m',m' < m/\W (i + 1) m' vs σ2 H3))
  {E:Value->Shared->Prop} {RR:Value->Addr->Result->Shared->Prop}
  (fin:∀ (C:Addr) (vs:List V) (H:Hp) (s':Shared) (m:Str->Option Value),s2.heap.objs.size < C->H C=none->s'.heap.Ns C m->H s2.heap.objs.size=none->Fn vs H ->
   (∀ h',Heap.SameBut C s'.heap h'->Inv X pins σ (upd H s2.heap.objs.size (.lst vs)) { s' with heap:=h' })->RR (.ref s2.heap.objs.size) C (.ok .next) s') :
  wpAny (model X.prog X.w) X.A (newList []) (fun acc s₃=>wpAny (model X.prog X.w) X.A (newFunctionEnv scope X.env.globals cl [] X.env.qual none .none (some X.env)) (fun cenv s₄ =>
   codeAny (model X.prog X.w) X.A (.compStart (.ListComp elt [⟨tg,iter,ifs,0⟩] scope pos) 0 (.ref it) acc { cenv with scope:=relabel scope X.env }) (RR acc cenv.locals) s₄) E s₃) E s2:=by
 refine wpAny_newObj_type (BL ?_)
 generalize hcf:cellsFrom ((s2.heap.push { cls:=.type "list",dict:=none,data:=.seq ([]:List Value).toArray }).objs.size + 1) scope.names cl=cf
 generalize hh₁:pushCells ((s2.heap.push { cls:=.type "list",dict:=none,data:=.seq ([]:List Value).toArray }).push { cls:=.type "dict",data:=.dict #[] }) scope.names=h₁
 have hns₁:h₁.Ns (s2.heap.push { cls:=.type "list",dict:=none,data:=.seq ([]:List Value).toArray }).objs.size (fun _=>none):=by
  rw [<- hh₁]; exact (Heap.Ns.new _ (.type "dict")).keeps (pushCells_keeps _ _)
 have hsz:(s2.heap.push { cls:=.type "list",dict:=none,data:=.seq ([]:List Value).toArray }).objs.size=s2.heap.objs.size + 1:=Heap.size_push ..
 have WQ:∀ b ob,(s2.heap.push { cls:=.type "list",dict:=none,data:=.seq ([]:List Value).toArray }).get? b=some ob->h₁.get? b=some ob:=fun b ob e=>by
  rw [<- hh₁]; exact pushCells_keeps _ _ b ob (Heap.get?_push_of_some _ e)
 have e2s:((s2.heap.push { cls:=.type "list",dict:=none,data:=.seq ([]:List Value).toArray }).push { cls:=.type "dict",data:=.dict #[] }).objs.size=(s2.heap.push { cls:=.type "list",dict:=none,data:=.seq ([]:List Value).toArray }).objs.size + 1:=Heap.size_push ..
 have own:=cellsFrom_ok scope.names ((s2.heap.push { cls:=.type "list",dict:=none,data:=.seq ([]:List Value).toArray }).push { cls:=.type "dict",data:=.dict #[] }) ((s2.heap.push { cls:=.type "list",dict:=none,data:=.seq ([]:List Value).toArray }).objs.size + 1) [] ⟨fun _ _ hm=>(nomatch hm),List.Pairwise.nil⟩ (by rw [e2s]; exact Nat.le_refl _)
 rw [e2s,hh₁] at own
 rw [fQ] at hcf
 generalize how:cellsFrom ((s2.heap.push { cls:=.type "list",dict:=none,data:=.seq ([]:List Value).toArray }).objs.size + 1) scope.names []=ow at own hcf
 have lk:∀ y c,cf.lookup y=some c->(scope.names.lookup y≠some .cell/\cl.lookup y=some c)∨(ow.lookup y=some c):=fun y c h=>by
  rw [<- hcf,List.lookup_append] at h
  cases q:ow.lookup y with
  | some c'=>rw [q] at h; exact .inr h
  | none =>
   rw [q] at h
   refine .inl ⟨fun z=>?_,h⟩
   have:=m8 scope.names ((s2.heap.push { cls:=.type "list",dict:=none,data:=.seq ([]:List Value).toArray }).objs.size + 1) y (PySem.mem_of_lookup z)
   rw [how,q] at this
   cases this
 have owC:∀ y c,ow.lookup y=some c->scope.names.lookup y=some .cell/\(s2.heap.push { cls:=.type "list",dict:=none,data:=.seq ([]:List Value).toArray }).objs.size < c/\h₁.IsCell c none:=fun y c h=>by
  have hm:=PySem.mem_of_lookup h
  have h2:=rA scope.names _ y c (by rw [how]; exact hm)
  exact ⟨T.cells _ h2 rfl,(own.empty y c hm).2,(own.empty y c hm).1⟩
 have vo:∀ y c,X.env.cells.lookup y=some c->c < s2.heap.objs.size:=fun y c e=>let ⟨v,q⟩:=I2.cell y c e; q.lt
 have hcl:∀ y c,cf.lookup y=some c->(scope.names.lookup y≠some .cell/\X.env.cells.lookup y=some c)∨(scope.names.lookup y=some .cell/\(s2.heap.push { cls:=.type "list",dict:=none,data:=.seq ([]:List Value).toArray }).objs.size < c/\h₁.IsCell c none):=fun y c h =>
  (lk y c h).imp (fun z=>⟨z.1,hcl y c z.2⟩) (owC y c)
 have Xu:∀ y z c,cf.lookup y=some c->cf.lookup z=some c->y=z:=fun y z c h1 h2=>by
  rcases lk y c h1 with ⟨a1,a2⟩ | a <;> rcases lk z c h2 with ⟨b1,b2⟩ | b
  ·rcases hcl y c h1 with ⟨_,w1⟩ | ⟨w1,_⟩
   ·rcases hcl z c h2 with ⟨_,w2⟩ | ⟨w2,_⟩
    ·exact I2.ok.inj y z c w1 w2
    ·exact absurd w2 b1
   ·exact absurd w1 a1
  ·rcases hcl y c h1 with ⟨_,w1⟩ | ⟨w1,_⟩
   ·exact (Nat.lt_irrefl _ (Nat.lt_trans (vo y c w1) (Nat.lt_trans (by rw [hsz]; exact Nat.lt_succ_self _) (owC z c b).2.1))).elim
   ·exact absurd w1 a1
  ·rcases hcl z c h2 with ⟨_,w1⟩ | ⟨w1,_⟩
   ·exact (Nat.lt_irrefl _ (Nat.lt_trans (vo z c w1) (Nat.lt_trans (by rw [hsz]; exact Nat.lt_succ_self _) (owC y c a).2.1))).elim
   ·exact absurd w1 b1
  ·exact PySem.name_of_addr own.apart (PySem.mem_of_lookup a) (PySem.mem_of_lookup b)
 have FZ:∀ y∈scope.names,(y.2 = .free∨y.2 = .cell)->(cf.lookup y.1).isSome=true:=fun y hy hk=>by
  rw [<- hcf,List.lookup_append]
  rcases hk with hk | hk
  ·obtain ⟨c,e⟩:=Option.isSome_iff_exists.mp (FZ y hy hk)
   rw [e]
   cases ow.lookup y.1 <;> rfl
  ·have:=m8 scope.names ((s2.heap.push { cls:=.type "list",dict:=none,data:=.seq ([]:List Value).toArray }).objs.size + 1) y.1 (by rw [<- hk]; exact hy)
   rw [how] at this
   obtain ⟨c,e⟩:=Option.isSome_iff_exists.mp this
   rw [e]; rfl
 clear lk owC own how hcf
 dsimp only at hns₁ ⊢
 have I0:=Gk (o:={ cls:=.type "list",dict:=none,data:=.seq ([]:List Value).toArray }) (tk:=s2.toks) T hcl Xu FZ I2 st2 Tn f2 (by intro v z; cases z) hns₁ WQ
 have st1:tn 0 h₁:=Tn.keep 0 _ _ st2 fun b _ ob e=>WQ b ob (Heap.get?_push_of_some _ e)
 have hD0:listAt h₁ s2.heap.objs.size []:=⟨[],0,.nil,WQ _ _ (Heap.get?_push_size _ rfl)⟩
 have fpF:∀ {H:Hp} {pn:List (Addr×Obj)},(∀ b∈fp,H b=none)->(∀ p∈pn,p.1 ∉ fp)->∀ b∈fp,vK (jo X Nc scope cf (s2.heap.push { cls:=.type "list",dict:=none,data:=.seq ([]:List Value).toArray }).objs.size { s2 with heap:=s2.heap.push { cls:=.type "list",dict:=none,data:=.seq ([]:List Value).toArray } } H2 (s2.heap.objs.size :: fp)) pn H b:=fun {H pn} hn hp b hb=>by
  have hlt:b < s2.heap.objs.size:=let ⟨ob,e,_⟩:=Tn.obj 0 s2.heap st2 b hb; Heap.lt_size e
  refine ⟨hn b hb,?_,fun z=>?_,.inl (List.mem_cons_of_mem _ hb),fun y c h=>?_,fun p hpp=>?_⟩
  ·exact Nat.ne_of_lt (by show b < (s2.heap.push _).objs.size; rw [hsz]; exact Nat.lt_succ_of_lt hlt)
  ·rcases List.mem_cons.mp (I2.yM b z) with z | z
   ·exact (f2 b hb).2.1 z
   ·exact (f2 b hb).2.2.1 z
  ·rcases hcl y c h with ⟨_,w⟩ | ⟨_,w,_⟩
   ·exact (f2 b hb).2.2.2.2.1 y c w
   ·exact Nat.ne_of_gt (Nat.lt_trans hlt (by lia))
  ·rcases List.mem_append.mp hpp with q | q
   ·exact absurd (show p∈([]:List (Addr×Obj)) from q) (by simp)
   ·exact fun z=>hp p q (z ▸ hb)
 have loop:codeAny (model X.prog X.w) X.A (.compLoop (.ListComp elt [⟨tg,iter,ifs,0⟩] scope pos) 0 (.ref it) (.ref s2.heap.objs.size) (compEnvC scope cf (s2.heap.push { cls:=.type "list",dict:=none,data:=.seq ([]:List Value).toArray }).objs.size X.env))
   (RR (.ref s2.heap.objs.size) (s2.heap.push { cls:=.type "list",dict:=none,data:=.seq ([]:List Value).toArray }).objs.size) { s2 with heap:=h₁,toks:=s2.toks }:=by
  generalize hX:jo X Nc scope cf (s2.heap.push { cls:=.type "list",dict:=none,data:=.seq ([]:List Value).toArray }).objs.size { s2 with heap:=s2.heap.push { cls:=.type "list",dict:=none,data:=.seq ([]:List Value).toArray } } H2 (s2.heap.objs.size :: fp)=X' at I0 fpF
  have eP:X'.prog=X.prog:=by rw [<- hX]; rfl
  have ew:X'.w=X.w:=by rw [<- hX]; rfl
  have eK:X'.K=X.K:=by rw [<- hX]; rfl
  have eA:X'.A=X.A:=by rw [<- hX]; rfl
  have ec:X'.calm=X.calm:=by rw [<- hX]; rfl
  have eN:X'.N=Nc:=by rw [<- hX]; rfl
  have ee:X'.env=compEnvC scope cf (s2.heap.push { cls:=.type "list",dict:=none,data:=.seq ([]:List Value).toArray }).objs.size X.env:=by rw [<- hX]; rfl
  have ex:X'.xe=fun _ _=>False:=by rw [<- hX]; rfl
  have eX:X'.ex=s2.heap.objs.size :: fp:=by rw [<- hX]; rfl
  have hT':Yh X' ifs tt:=by rw [<- hX]; exact hT _ _ _ _ _
  have hE':PE X' elt te:=by rw [<- hX]; exact hE _ _ _ _ _
  have hG':PG X' tg gt:=by rw [<- hX]; exact hG _ _ _ _ _
  have back:∀ {σ':St} {H:Hp} {s':Shared} {rF:List (Addr×Obj)} {vs:List V} {h':Heap},Inv X' rF σ' H s'->H s2.heap.objs.size=none->vs.length<=sizeLine->listAt s'.heap s2.heap.objs.size vs ->
    Heap.SameBut (s2.heap.push { cls:=.type "list",dict:=none,data:=.seq ([]:List Value).toArray }).objs.size s'.heap h'->Inv X pins σ (upd H s2.heap.objs.size (.lst vs)) { s' with heap:=h' }:=by
   intro σ' H s' rF vs h' I
   rw [<- hX] at I
   exact comp_back I2 f2 I
  have Dex:s2.heap.objs.size∈X'.ex∨X'.s₀.heap.objs.size<=s2.heap.objs.size:=.inl (by rw [eX]; exact List.mem_cons_self)
  have DnL:s2.heap.objs.size≠X'.env.locals:=by rw [ee]; exact Nat.ne_of_lt (by show _ < (s2.heap.push _).objs.size; rw [hsz]; exact Nat.lt_succ_self _)
  have DnC:∀ y c,X'.env.cells.lookup y=some c->c≠s2.heap.objs.size:=fun y c h=>by
   rw [ee] at h
   rcases hcl y c h with ⟨_,w⟩ | ⟨_,w,_⟩
   ·exact Nat.ne_of_lt (vo y c w)
   ·exact Nat.ne_of_gt (by lia)
  have DnF:s2.heap.objs.size ∉ X'.fs:=fun z=>by
   rw [<- hX] at z
   obtain ⟨_,ob,e,_⟩:=I2.stack.mem (show s2.heap.objs.size∈frs X.stack from z)
   exact Nat.lt_irrefl _ (Heap.lt_size e)
  have Dfp:s2.heap.objs.size ∉ fp:=fun hb=>by
   obtain ⟨ob,e,_⟩:=Tn.obj 0 s2.heap st2 _ hb
   exact Nat.lt_irrefl _ (Heap.lt_size e)
  have pn0:X'.pn=[]:=by rw [<- hX]; rfl
  rw [<- ee]
  refine Gm (fun n s=>∃ i vs H σ0,Inv X' [] σ0 H s/\tn i s.heap/\(∀ b∈fp,H b=none)/\H s2.heap.objs.size=none/\listAt s.heap s2.heap.objs.size vs/\W i n vs σ0 H) ?_ m0
   ⟨0,[],H2,_,I0,st1,fun b hb=>(f2 b hb).1,I2.hok.fresh (Nat.le_refl _),hD0,w0⟩
  rintro n s ⟨i,vs,H,σ0,I,st,hf,hDn,⟨its,k,rv,eD⟩,w1⟩
  have pinned:Inv X' [(s2.heap.objs.size,({ cls:=.type "list",data:=.seq its.toArray k }:Obj))] σ0 H s:=I.pK fun p hp=>by
   obtain rfl:=List.mem_singleton.mp hp
   exact ⟨eD,hDn,DnL,DnF,fun v z=>by cases z⟩
  have fpp:∀ p∈[(s2.heap.objs.size,({ cls:=.type "list",data:=.seq its.toArray k }:Obj))],p.1 ∉ fp:=fun p hp=>by
   obtain rfl:=List.mem_singleton.mp hp
   exact Dfp
  rcases turn i n vs σ0 H w1 with ⟨hz,stop,fn⟩ | ⟨go,hz,step⟩
  ·have dn:=Tn.done X' eP ew eK ec i _ s _ H (notedBy (model X.prog X.w) X.A X'.env fun e s'=>RR (.ref s2.heap.objs.size) (s2.heap.push { cls:=.type "list",dict:=none,data:=.seq ([]:List Value).toArray }).objs.size (.error e) s') pinned (fpF hf fpp) st stop
   rw [eA] at dn
   refine bL dn fun r s1 ⟨hr,J1⟩=>?_
   subst hr
   have pD:=J1.pin (s2.heap.objs.size,({ cls:=.type "list",data:=.seq its.toArray k }:Obj)) (by rw [pn0]; simp)
   obtain ⟨mC,hnC,_⟩:=J1.loc
   rw [ee] at hnC
   have fC:=J1.free
   rw [ee] at fC
   refine fin _ vs H s1 mC (by rw [hsz]; exact Nat.lt_succ_self _) fC hnC hDn fn fun h' hs=>back J1 hDn hz ⟨its,k,rv,pD.1⟩ hs
  ·have im:=Tn.item X' eP ew eK ec i _ s _ H (notedBy (model X.prog X.w) X.A X'.env fun e s'=>RR (.ref s2.heap.objs.size) (s2.heap.push { cls:=.type "list",dict:=none,data:=.seq ([]:List Value).toArray }).objs.size (.error e) s') pinned (fpF hf fpp) st go
   rw [eA] at im
   refine bL im fun r s1 ⟨u,hr,h1⟩=>?_
   subst hr
   dsimp only
   refine bL h1 fun _ s3 ⟨y,H3,I3,r3,y3,st3,fr3⟩=>?_
   have I3':=I3.pinned (fpF fr3 fpp) (Tn.obj _ _ st3)
   have g:=hG' _ s3 _ H3 y u _ I3' r3 (step y H3 y3)
   rw [eP,ew,eA,ex] at g
   refine wpAny_mono g (fun _ s4 ⟨σ4,H4,I4,q4⟩=>?_) fun _ _ z=>z.elim
   have t:=hT' _ s4 _ H4 _ I4 q4
   rw [eP,ew,eA,ex] at t
   have tk':∀ {pl:List (Addr×Obj)} {σ':St} {H':Hp} {s':Shared},Inv X' (pl ++ uG fp s3.heap) σ' H' s'->tn (i + 1) s'.heap/\∀ b∈fp,H' b=none:=fun {pl σ' H' s'} J=>by
    refine ⟨Tn.keep _ _ _ st3 fun b hb o e=>(J.pin (b,o) (List.mem_append_right _ (List.mem_append_right _ (j4 hb e)))).1,fun b hb=>?_⟩
    obtain ⟨o,e,d⟩:=Tn.obj _ _ st3 b hb
    exact (J.pin (b,o) (List.mem_append_right _ (List.mem_append_right _ (j4 hb e)))).2.1
   refine wpAny_mono t (fun b s5 ⟨H5,I5,q5⟩=>?_) fun _ _ z=>z.elim
   cases b with
   | false =>
    rw [if_neg Bool.false_ne_true] at q5 ⊢
    obtain ⟨m',hm,w5⟩:=q5
    obtain ⟨Y5,fr5⟩:=tk' I5
    have pD:=I5.pin (s2.heap.objs.size,({ cls:=.type "list",data:=.seq its.toArray k }:Obj)) (by simp)
    exact ⟨m',hm,i + 1,vs,H5,σ4,I5.pK (fun p hp=>nomatch hp),Y5,fr5,pD.2.1,⟨its,k,rv,pD.1⟩,w5⟩
   | true =>
    rw [if_pos rfl] at q5 ⊢
    have ev:=hE' _ s5 _ H5 _ I5 q5
    rw [eP,ew,eA,ex] at ev
    refine wpAny_mono ev (fun z s6 ⟨v,H6,I6,r6,q6⟩=>?_) fun _ _ z=>z.elim
    obtain ⟨m',hm,w6⟩:=q6
    obtain ⟨st6,fr6⟩:=tk' I6
    have pD:=I6.pin (s2.heap.objs.size,({ cls:=.type "list",data:=.seq its.toArray k }:Obj)) (by simp)
    have hlen:=rv.length
    refine call_meets F.slot_list_append ⟨_,pD.1,rfl⟩ F.entry_list_append (F.args_list_append_2 _ _) (PySem.list_append s2.heap.objs.size its.toArray k z (by rw [List.size_toArray]; lia)) ⟨pD.1,?_⟩
    have q:=PySem.IsL.update pD.1 (fun a=>a.push z)
    dsimp only at q
    rw [show its.toArray.push z=(its ++ [z]).toArray by simp] at q
    have kk:∀ b o,b≠s2.heap.objs.size->s6.heap.get? b=some o->(s6.heap.update s2.heap.objs.size (Obj.mapSeq fun a=>a.push z)).get? b=some o:=fun b o hb e=>(Heap.get?_update_other s6.heap _ (Ne.symm hb)).trans e
    have I7:Inv X' [] σ4 H6 { s6 with heap:=s6.heap.update s2.heap.objs.size (Obj.mapSeq fun a=>a.push z),toks:=s6.toks }:=(I6.pK (rF:=[]) (fun p hp=>nomatch hp)).turned kk pD.2.1 DnL Dex DnC (fun p hp=>by
     rw [pn0] at hp; exact absurd hp (by simp))
    refine ⟨m',hm,i + 1,vs ++ [v],H6,σ4,I7,Tn.keep _ _ _ st6 (fun b hb o e=>kk b o (fun zz=>Dfp (zz ▸ hb)) e),fr6,pD.2.1,⟨its ++ [z],_,rv.append (.cons r6 .nil),q⟩,w6⟩
 exact codeAny_compStart_list loop (Tn.self _ 0 _ _ _ st1 loop)
end
end L2
namespace L2
open PySem PySem.Spec PyProof.Rows
section
variable {X:Cx} {elt iter tg:Expr} {xs:List Str} {gt:TG} {ifs:List Expr} {scope:Scope} {pos:Pos} {Nc:List Str} {cap:List Nat} {tt:TT} {te:TE} {wi:TI}
theorem xX {pins:List (Addr×Obj)} {s:Shared} {σ:St} {H:Hp} (T:nj X xs scope Nc cap) (I:Inv X pins σ H s):∃ cl,closureFor scope X.env=pure cl/\(∀ y c,cl.lookup y=some c->X.env.cells.lookup y=some c)/\∀ y∈scope.names,y.2 = .free->(cl.lookup y.1).isSome=true :=
 sy fun y hy hf=>I.ok.has y.1 (T.free y hy hf)
theorem Rw (T:nj X xs scope Nc cap) (hi:PI X tg iter wi) (hG:∀ cl C s H ex,PG (jo X Nc scope cl C s H ex) tg gt) (hT:∀ cl C s H ex,Yh (jo X Nc scope cl C s H ex) ifs tt) (hE:∀ cl C s H ex,PE (jo X Nc scope cl C s H ex) elt te)
  (hs:∀ v,foldedSetIterable iter X.env v=pure v):PE X (.ListComp elt [⟨tg,iter,ifs,0⟩] scope pos) (Lf xs.length gt cap wi tt te):=by
 intro pins s σ H Q I h
 rw [eval_ListComp]
 obtain ⟨cl,e1,e2,e3⟩:=xX T I
 refine wpAny_comprehension_free (use:=none) rfl hs e1 T.kind T.names (bL (hi pins s σ H _ I h) fun v s1 h1=>bL h1 fun itv s2 h2=>?_)
 obtain ⟨it,fp,tn,J,H2,rfl,I2,Tn,st2,f2,W,⟨m0,w0⟩,turn⟩:=h2
 refine Dk (RR:=fun acc C=>compPost (model X.prog X.w) X.A X.xe none (EP X pins σ Q) acc C) T e2 e3 I2 st2 Tn f2 hG hT hE W w0 turn fun C vs H' s' m hC hHC hn hD fn back=>?_
 exact ⟨m,hn,fun h' hs'=>⟨.ref _,_,back h' hs',rfl,fn _ hD⟩⟩
theorem Eu {i:Nat} {t:Str} {pt pos2:Pos} (T:nj X xs scope Nc cap) (hi:PI X tg iter wi) (hG:∀ cl C s H ex,PG (jo X Nc scope cl C s H ex) tg gt) (hT:∀ cl C s H ex,Yh (jo X Nc scope cl C s H ex) ifs tt) (hE:∀ cl C s H ex,PE (jo X Nc scope cl C s H ex) elt te)
  (hs:∀ v,foldedSetIterable iter X.env v=pure v) (hN:X.N.Nodup) (hti:X.N[i]? = some t) (htl:X.env.scope.names.lookup t=some .local)
  (hsw:swapsWith (.ListComp elt [⟨tg,iter,ifs,0⟩] scope pos) (some (.Name t pt)) pos2.line X.env=pure true) :
  PS X (.Assign [.Name t pt] (.ListComp elt [⟨tg,iter,ifs,0⟩] scope pos) pos2) (Iu (Lf xs.length gt cap wi tt te) (CJ i)):=by
 intro pins s σ H D I h
 rw [exec_Assign_Name_used _ _ _ _ hsw]
 obtain ⟨cl,e1,e2,e3⟩:=xX T I
 refine wpAny_bind (wpAny_standAt (wpAny_bind ?_))
 show wpAny _ X.A (do let _ <- comprehension (.ListComp elt [⟨tg,iter,ifs,0⟩] scope pos) scope X.env _ (newList []) false (eval iter X.env) (some (assign (.Name t pt) X.env))) _ _ s
 refine wpAny_bind (wpAny_mono (wpAny_comprehension_free (use:=some (assign (.Name t pt) X.env)) (Q:=fun _ s'=>SP X pins D .next s') rfl hs e1 T.kind T.names
  (bL (hi pins s σ H _ I h) fun v s1 h1=>bL h1 fun itv s2 h2=>?_)) (fun _ s' q=>wpAny_pure (wpAny_pure q)) fun _ _ e=>e)
 obtain ⟨it,fp,tn,J,H2,rfl,I2,Tn,st2,f2,W,⟨m0,w0⟩,turn⟩:=h2
 refine Dk (RR:=fun acc C=>compPost (model X.prog X.w) X.A X.xe (some (assign (.Name t pt) X.env)) (fun _ s'=>SP X pins D .next s') acc C) T e2 e3 I2 st2 Tn f2 hG hT hE W w0 turn fun C vs H' s' m hC hHC hn hD fn back=>?_
 have I3:Inv X pins σ (upd H' s2.heap.objs.size (.lst vs)) s':=back s'.heap (.refl ..)
 have hLC:X.env.locals≠C:=Nat.ne_of_lt (Nat.lt_trans I2.lt hC)
 have hDC:C≠s2.heap.objs.size:=Nat.ne_of_gt hC
 show wpAny _ X.A (assign (.Name t pt) X.env (.ref s2.heap.objs.size)) _ _ s'
 refine wpAny_assign_Name (wY I3 hN hti (.inl htl) (v:=.ref s2.heap.objs.size) rfl (fun s4 I4 ⟨a,sb,ha⟩=>?_) (.inr htl))
 have hCa:C≠a:=by
  rcases ha with rfl | ha
  ·exact Ne.symm hLC
  ·obtain ⟨v,q⟩:=I2.cell t a ha
   exact Nat.ne_of_gt (Nat.lt_trans q.lt hC)
 refine ⟨m,hn.sameBut sb hCa,fun h' sb'=>⟨_,_,I4.turned (t':=s4.toks) (it:=C) (fun b o hb e=>(sb'.2 b hb).trans e) (by rw [aq hDC]; exact hHC) (Ne.symm hLC) (.inr ?_) (fun y c e=>?_) (fun p hp=>?_),fn _ hD⟩⟩
 ·exact Nat.le_trans I2.sz (Nat.le_of_lt hC)
 ·obtain ⟨v,q⟩:=I2.cell y c e
  exact Nat.ne_of_lt (Nat.lt_trans q.lt hC)
 ·exact Nat.ne_of_lt (Nat.lt_trans (Heap.lt_size (I2.pin p hp).1) hC)
end
end L2
end
section
namespace DW
open PySem PySem.Spec PyProof.Rows L2
noncomputable def vG (K:PySem.W.Frag) (J:L2.It) (ds:List D) (g:Mem->Prop) (H0:Hp) (θ0:List Addr) (μ0:Mem):Prop :=
 ds.length<=sizeLine/\∀ (i:Nat) (H:Hp) (θ:List Addr) (μ:Mem),cF K H θ μ->au H0 θ0 μ0 H θ μ->g μ ->
  (i < ds.length->J.go i H/\∀ x H',J.Yx i H x H'->cF K H' θ μ/\au H θ μ H' θ μ/\∃ d,ds[i]? = some d/\Rp K H' θ μ d x)/\(i=ds.length->J.stop i H)
noncomputable abbrev WI:=dI->Mem->QI->Prop
noncomputable def LI (K:PySem.W.Frag) (w:WI):TI:=fun σ H R=>∃ ρ θ μ Qi,qm K σ H ρ θ μ/\w ρ μ Qi /\
 ∀ ds g (J:L2.It) H' θ' μ',cF K H' θ' μ'->au H θ μ H' θ' μ'->vG K J ds g H' θ' μ'->Qi ds g μ'->R J H'
section
variable {K:PySem.W.Frag} {H:Hp} {θ:List Addr} {μ:Mem} {ds:List D} {a:Addr} {xs:List V}
theorem qw (hl:ds.length<=sizeLine) (g:Mem->Prop) (h:∀ (H':Hp) (θ':List Addr) (μ':Mem),cF K H' θ' μ'->au H θ μ H' θ' μ'->g μ'->∃ xs,lg K H' a xs/\gH K H' θ' μ' ds xs):vG K (Itl K a) ds g H θ μ:=by
 refine ⟨hl,fun i H' θ' μ' w' gr hg=>?_⟩
 obtain ⟨xs,hx,rs⟩:=h H' θ' μ' w' gr hg
 refine ⟨fun hi=>?_,fun hi=>⟨xs,hx,by rw [hi,rs.length]; exact Nat.le_refl _⟩⟩
 obtain ⟨v,e1,e2⟩:=rs.get (i:=i) (List.getElem?_eq_getElem hi)
 refine ⟨⟨xs,v,hx,e1⟩,fun x Gu y=>?_⟩
 obtain ⟨rfl,y⟩:=y
 have:=y xs hx
 rw [e1] at this; cases this
 exact ⟨w',au.refl,_,List.getElem?_eq_getElem hi,e2⟩
theorem Kh (hl:ds.length<=sizeLine) (g:Mem->Prop) (h:∀ (H':Hp) (θ':List Addr) (μ':Mem),cF K H' θ' μ'->au H θ μ H' θ' μ'->g μ'->∃ xs,qu K H' a xs/\gH K H' θ' μ' ds xs):vG K (Itt K a) ds g H θ μ:=by
 refine ⟨hl,fun i H' θ' μ' w' gr hg=>?_⟩
 obtain ⟨xs,hx,rs⟩:=h H' θ' μ' w' gr hg
 refine ⟨fun hi=>?_,fun hi=>⟨xs,hx,by rw [hi,rs.length]; exact Nat.le_refl _⟩⟩
 obtain ⟨v,e1,e2⟩:=rs.get (i:=i) (List.getElem?_eq_getElem hi)
 refine ⟨⟨xs,v,hx,e1⟩,fun x Gu y=>?_⟩
 obtain ⟨rfl,y⟩:=y
 have:=y xs hx
 rw [e1] at this; cases this
 exact ⟨w',au.refl,_,List.getElem?_eq_getElem hi,e2⟩
theorem tM {lo:Int} {n:Nat} (hn:n<=sizeLine):vG K (Itr lo n) (aM lo n) (fun _=>True) H θ μ:=by
 refine ⟨by simpa [aM] using hn,fun i H' θ' μ' w' gr _=>⟨fun hi=>?_,fun hi=>?_⟩⟩
 ·have hi':i < n:=by simpa [aM] using hi
  refine ⟨hi',fun x Gu y=>?_⟩
  obtain ⟨rfl,rfl⟩:=y
  exact ⟨w',au.refl,.int (lo + (i:Int)),by simp [aM,hi'],aY⟩
 ·have hi':i=n:=by simpa [aM] using hi
  show n<=i
  lia
end
noncomputable def Itd (a:Addr) (o:Obj) (kvs:List (Key×V)):L2.It :=
 ⟨fun i H=>H a=some (.bK o (.dK kvs))/\i < kvs.length,fun i H x H'=>H'=H/\∃ kv,kvs[i]? = some kv/\x=kV kv.1,fun i H=>H a=some (.bK o (.dK kvs))/\kvs.length<=i⟩
theorem N7 {κ:Type}:∀ {kvs:List (κ×V)} {vs:List (κ×Value)} {i:Nat} {kv:κ×V},KV kvs vs->kvs[i]? = some kv->∃ u,vs[i]? = some (kv.1,u)
 | _,_,i,_,.nil,e=>by simp at e
 | _,_,0,_,.cons r _,e=>by simp at e; subst e; exact ⟨_,by rw [List.getElem?_cons_zero,r.1]⟩
 | _,_,i + 1,kv,.cons _ t,e=>by
  obtain ⟨u,h1⟩:=N7 (i:=i) (kv:=kv) t (by simpa using e)
  exact ⟨u,by simpa using h1⟩
theorem HD {X:Cx} {pins:List (Addr×Obj)} {σ:L2.St} {H:Hp} {s:Shared} {a:Addr} {o:Obj} {kvs:List (Key×V)} {es:Array DictEntry} {ep:Nat} (I:Inv X pins σ H s) (e:H a=some (.bK o (.dK kvs))) (hd:o.data = .dict es ep) :
  ∃ vs,KV kvs vs/\s.heap.DictAt (aX X.prog X.w) a vs ep:=by
 obtain ⟨h1,_,_,vs,rel,o',es',ep',q1,q2,q3,q4⟩:=(show aJ X.prog X.w H s.heap a (.bK o (.dK kvs)) from I.hok a _ e)
 rw [h1] at q1; cases q1
 rw [hd] at q3; cases q3
 exact ⟨vs,rel,o,es,h1,q2,hd,q4⟩
theorem Io {cb:Bool} (hcb:cb=true) {P:Program} {w:World} {K:PySem.W.Frag} {tg:Expr} (a it:Addr) (o:Obj) (kvs:List (Key×V)) (es:Array DictEntry) (ep:Nat) (hd:o.data = .dict es ep) :
  Turn cb P w K tg (Itd a o kvs) [it] it (fun i h=>h.IsKeyIter it a i kvs.length ep) where
 mem:=by simp
 obj:=fun i h st b hb=>by
  have e:b=it:=by simpa using hb
  subst e
  obtain ⟨o,e,c,d⟩:=st
  exact ⟨o,e,fun v z=>by rw [d] at z; cases z⟩
 keep:=fun i h h' st k=>by
  obtain ⟨o,e,c,d⟩:=st
  exact ⟨o,k it (by simp) o e,c,d⟩
 item:=by
  intro X hP hw hK hc i pins s σ H E I hf st hg
  subst hP hw hK
  obtain ⟨e,hi⟩:=hg
  obtain ⟨vs,rel,dat⟩:=HD I e hd
  obtain ⟨f0,f1,f2,f3,f4,f5⟩:=hf it (by simp)
  have hlen:=rel.length
  obtain ⟨u,hu⟩:=N7 rel (List.getElem?_eq_getElem hi)
  refine wpAny_pyNext_dict_item (hlen ▸ st) dat hu fun key h' hk st' sb=>?_
  have I1:Inv X pins σ H { s with heap:=h' }:=I.turned (t':=s.toks) (fun b o hb e=>(sb.2 b hb).trans e) f0 f1 f3 f4 f5
  obtain ⟨o',e',c,d⟩:=id st'
  refine ⟨key,rfl,Cz (s:={ s with heap:=h' }) e' c d (by decide) ⟨kV (kvs[i]).1,H,I1,?_,⟨rfl,kvs[i],List.getElem?_eq_getElem hi,rfl⟩,hlen ▸ st',fun b hb=>(hf b hb).1⟩⟩
  rcases bI hk with ⟨z,tt,e1,rfl⟩ | ⟨z,tt,e1,rfl⟩
  ·rw [e1]; exact ⟨tt,rfl⟩
  ·rw [e1]; exact ⟨tt,rfl⟩
 done:=by
  intro X hP hw hK hc i pins s σ H E I hf st hg
  subst hP hw hK
  obtain ⟨e,hi⟩:=hg
  obtain ⟨vs,rel,dat⟩:=HD I e hd
  obtain ⟨f0,f1,f2,f3,f4,f5⟩:=hf it (by simp)
  have hlen:=rel.length
  exact wpAny_pyNext_dict_end (I.ok.hd (hc.trans hcb)) (hlen ▸ st) dat (List.getElem?_eq_none (by lia)) fun h' eb=>⟨rfl,I.turned (t':=s.toks) (fun b o hb e=>eb b o hb e) f0 f1 f3 f4 f5⟩
 self:=fun _ _ _ _ _ st h=>wpAny_pyIter_keyiter st h
noncomputable def Itx (a:Addr) (o:Obj) (bs:List Addr):L2.It :=
 ⟨fun i H=>(∃ u,H a=some (.bK o u))/\i < bs.length,fun i H x H'=>H'=H/\∃ b,bs[i]? = some b/\x = .ref b,fun i H=>(∃ u,H a=some (.bK o u))/\bs.length<=i⟩
theorem Il {cb:Bool} (hcb:cb=true) {P:Program} {w:World} {K:PySem.W.Frag} {tg:Expr} (a it:Addr) (o:Obj) (bs:List Addr) (es:Array DictEntry) (ep:Nat) (hd:o.data = .dict es ep) (hk:es.toList.map (·.key)=bs.map Value.ref) :
  Turn cb P w K tg (Itx a o bs) [it] it (fun i h=>h.IsKeyIter it a i es.size ep):=by
 have hsz:es.size=bs.length:=by have:=congrArg List.length hk; simpa using this
 refine ⟨by simp,fun i h st b hb=>?_,fun i h h' st k=>?_,?_,?_,fun _ _ _ _ _ st h=>wpAny_pyIter_keyiter st h⟩
 ·obtain rfl:=List.mem_singleton.mp hb
  obtain ⟨o,e,_,d⟩:=st
  exact ⟨o,e,fun v z=>by rw [d] at z; cases z⟩
 ·obtain ⟨o,e,c,d⟩:=st
  exact ⟨o,k it (by simp) o e,c,d⟩
 ·intro X hP hw hK hc i pins s σ H E I hf st hg
  subst hP hw hK
  obtain ⟨⟨u,e⟩,hi⟩:=hg
  obtain ⟨f0,f1,f2,f3,f4,f5⟩:=hf it (by simp)
  have ho:s.heap.get? a=some o:=(show aJ X.prog X.w H s.heap a (.bK o u) from I.hok a _ e).1
  have hi':i < es.size:=by lia
  have hkey:es[i].key = .ref bs[i]:=by
   have h1:(es.toList.map (·.key))[i]? = some es[i].key:=by simp [hi']
   rw [hk] at h1
   simp [hi] at h1
   exact h1.symm
  refine OJ st ho hd hi' fun h' st' sb=>?_
  have I1:Inv X pins σ H { s with heap:=h' }:=I.turned (t':=s.toks) (fun b o hb e=>(sb.2 b hb).trans e) f0 f1 f3 f4 f5
  obtain ⟨o',e',c,d⟩:=id st'
  rw [hkey]
  exact ⟨_,rfl,Cz (s:={ s with heap:=h' }) e' c d (by decide) ⟨.ref bs[i],H,I1,rfl,⟨rfl,bs[i],List.getElem?_eq_getElem hi,rfl⟩,st',fun b hb=>(hf b hb).1⟩⟩
 ·intro X hP hw hK hc i pins s σ H E I hf st hg
  subst hP hw hK
  obtain ⟨⟨u,e⟩,hi⟩:=hg
  obtain ⟨f0,f1,f2,f3,f4,f5⟩:=hf it (by simp)
  have ho:s.heap.get? a=some o:=(show aJ X.prog X.w H s.heap a (.bK o u) from I.hok a _ e).1
  exact Tq (I.ok.hd (hc.trans hcb)) st ho hd (by lia) fun h' eb=>⟨rfl,I.turned (t':=s.toks) (fun b o hb e=>eb b o hb e) f0 f1 f3 f4 f5⟩
section
variable {X:Cx} {tg:Expr}
theorem Rg {l:Expr} {wl:WE} (hcl:X.calm=true) (hl:PE X l (LE X.K wl)):PI X tg l (LI X.K fun ρ μ Q=>wl ρ μ fun d μ1=>Am d μ1 Q):=by
 intro pins s σ H R I h
 have big:∀ (x:V) (H1:Hp) (s1:Shared),Inv X pins σ H1 s1->True:=fun _ _ _ _=>trivial
 obtain ⟨ρ,θ,μ,Qi,sm,h,f⟩:=h
 refine bL (hl pins s σ H (fun x H1=>∃ d θ1 μ1,cF X.K H1 θ1 μ1/\au H θ μ H1 θ1 μ1/\Rp X.K H1 θ1 μ1 d x/\Am d μ1 Qi) I ⟨ρ,θ,μ,_,sm,h,fun d v H1 θ1 μ1 w1 g1 r1 h1=>⟨d,θ1,μ1,w1,g1,r1,h1⟩⟩) fun v s1 ⟨x,H1,I1,r1,d,θ1,μ1,w1,g1,rd,hq⟩=>?_
 have pe:∀ (R':L2.It->Hp->Prop),((∃ a,x = .ref a/\(∃ xs,lg X.K H1 a xs)/\R' (Itl X.K a) H1)∨(∃ a,x = .ref a/\(∃ xs,qu X.K H1 a xs)/\R' (Itt X.K a) H1)) ->
   wpAny (model X.prog X.w) X.A (pyIter v) (PIE X pins σ tg R') X.xe s1:=fun R' q1=>by
  rcases q1 with ⟨a,rfl,⟨xs,hq⟩,q⟩ | ⟨a,rfl,⟨xs,hq⟩,q⟩
  ·cases r1
   obtain ⟨its,rv,p,hz⟩:=I1.list hq
   refine wpAny_pyIter_list p.isList ?_
   refine ⟨s1.heap.objs.size,[s1.heap.objs.size],_,_,H1,rfl,I1.kept (t':=s1.toks) fun b o e=>Heap.get?_push_of_some _ e,Im hcl a _,⟨_,Heap.get?_push_size _ rfl,rfl,rfl⟩,fun b hb=>?_,q⟩
   obtain rfl:=List.mem_singleton.mp hb
   exact I1.JH (Nat.le_refl _) (I1.hok.fresh (Nat.le_refl _))
  ·cases r1
   obtain ⟨its,rv,p,hz⟩:=I1.tuple hq
   refine wpAny_pyIter_tuple (show s1.heap.IsTuple a its.toArray from p) ?_
   refine ⟨s1.heap.objs.size,[s1.heap.objs.size],_,_,H1,rfl,I1.kept (t':=s1.toks) fun b o e=>Heap.get?_push_of_some _ e,Ek hcl a _,⟨_,Heap.get?_push_size _ rfl,rfl,rfl⟩,fun b hb=>?_,q⟩
   obtain rfl:=List.mem_singleton.mp hb
   exact I1.JH (Nat.le_refl _) (I1.hok.fresh (Nat.le_refl _))
 unfold Am at hq
 split at hq
 ·rename_i ds
  obtain ⟨a,xs,rfl,h1,nl,rs⟩:=fG rd
  have hz:ds.length<=sizeLine:=by obtain ⟨_,_,_,hz⟩:=I1.list (lg.of h1); rw [rs.length]; exact hz
  exact pe R (.inl ⟨a,rfl,⟨xs,.of h1⟩,f ds _ _ H1 θ1 μ1 w1 g1 (qw hz _ fun H' θ' μ' w' gr _=>⟨xs,.of (gr.keep a _ h1 nl).1,gr.reps rs⟩) hq⟩)
 ·rename_i ds
  obtain ⟨a,xs,rfl,h1,nl,rs⟩:=bR rd
  have hz:ds.length<=sizeLine:=by obtain ⟨_,_,_,hz⟩:=I1.tuple (qu.of h1); rw [rs.length]; exact hz
  exact pe R (.inr ⟨a,rfl,⟨xs,.of h1⟩,f ds _ _ H1 θ1 μ1 w1 g1 (Kh hz _ fun H' θ' μ' w' gr _=>⟨xs,.of (gr.keep a _ h1 nl).1,gr.reps rs⟩) hq⟩)
 ·rename_i ds
  obtain ⟨a,xs,rfl,h1,rs⟩:=zJ rd
  have hz:ds.length<=sizeLine:=by obtain ⟨_,_,_,hz⟩:=I1.list (Ad h1); rw [rs.length]; exact hz
  refine pe R (.inl ⟨a,rfl,⟨xs,Ad h1⟩,f ds _ _ H1 θ1 μ1 w1 g1 (qw hz _ fun H' θ' μ' w' gr _=>⟨xs,?_,gr.reps rs⟩) hq⟩)
  rcases h1 with ⟨o,h1,h2⟩ | h1
  ·exact .inl (.inr ⟨o,(gr.keep a _ h1 h2).1⟩)
  ·exact .inr h1
 ·rename_i ks ds
  obtain ⟨is,rfl,hq⟩:=hq
  obtain ⟨a,o,kvs,rfl,h1,nl,h2,h3⟩:=tB rd
  cases r1
  obtain ⟨q0,hz,hs,vs,rel,o',es,ep,q1,q2,q3,q4⟩:=(show aJ X.prog X.w H1 s1.heap a (.bK o (.dK kvs)) from I1.hok a _ h1)
  rw [q0] at q1; cases q1
  have hlen:=rel.length
  have hli:kvs.length=is.length:=by simpa using congrArg List.length h2
  refine wpAny_pyIter_dict hs (⟨o,es,q0,q2,q3,q4⟩:s1.heap.DictAt (aX X.prog X.w) a vs ep) ?_
  refine ⟨s1.heap.objs.size,[s1.heap.objs.size],_,_,H1,rfl,I1.kept (t':=s1.toks) fun b o e=>Heap.get?_push_of_some _ e,Io hcl a _ o kvs es ep q3,⟨_,Heap.get?_push_size _ rfl,rfl,by rw [hlen]; rfl⟩,fun b hb=>?_,f (is.map .int) (fun _=>True) (Itd a o kvs) H1 θ1 μ1 w1 g1 ⟨by simpa [<- hli] using hz,fun i H' θ' μ' w' gr _=>⟨fun hi=>⟨⟨(gr.keep a _ h1 nl).1,by simpa [hli] using hi⟩,fun y Gu q=>?_⟩,fun hi=>⟨(gr.keep a _ h1 nl).1,by simp at hi; lia⟩⟩⟩ hq⟩
  ·obtain rfl:=List.mem_singleton.mp hb
   exact I1.JH (Nat.le_refl _) (I1.hok.fresh (Nat.le_refl _))
  ·obtain ⟨rfl,kv,e1,rfl⟩:=q
   have hi':i < is.length:=by simpa using hi
   refine ⟨w',au.refl,.int is[i],by simp [hi'],?_⟩
   have e2:(kvs.map (·.1))[i]? = some kv.1:=by rw [List.getElem?_map,e1]; rfl
   rw [h2] at e2
   simp [hi',keyOf] at e2
   rw [<- e2]
   exact aY
 ·rename_i n
  obtain ⟨a,rfl,ha⟩:=aO rd
  split at hq
  ·rename_i ds hn
   obtain ⟨xs,h1,rs⟩:=w1.list hn ha
   have hz:ds.length<=sizeLine:=by obtain ⟨_,_,_,hz⟩:=I1.list (lg.of h1); rw [rs.length]; exact hz
   refine pe R (.inl ⟨a,rfl,⟨xs,.of h1⟩,f ds _ _ H1 θ1 μ1 w1 g1 (qw hz _ fun H' θ' μ' w' gr hg=>?_) hq⟩)
   obtain ⟨ys,h2,rs2⟩:=w'.list hg (gr.pre n a ha)
   exact ⟨ys,.of h2,rs2⟩
  ·rename_i o ks ds hn
   obtain ⟨is,rfl,hq⟩:=hq
   cases r1
   obtain ⟨kvs,h1,h2,h3⟩:=w1.cell n _ a hn ha
   obtain ⟨q0,hz,hs,xs,rel,o',es,ep,q1,q2,q3,q4,q5⟩:=(show aJ X.prog X.w H1 s1.heap a (.bK o (.dT kvs)) from I1.hok a _ h1)
   rw [q0] at q1; cases q1
   have ev:es.toList.map (·.key)=(xs.map fun q=>q.2.1).map Value.ref:=by rw [q4,List.map_map,List.map_map]; rfl
   have lx:xs.length=is.length:=by
    have e1:=Paired.length rel
    have e2:=congrArg List.length h2
    simp at e2
    lia
   have hes:es.size=xs.length:=by have:=congrArg List.length ev; simpa using this
   refine Tp hs q0 q2 q3 ?_
   refine ⟨s1.heap.objs.size,[s1.heap.objs.size],_,_,H1,rfl,I1.kept (t':=s1.toks) fun b o e=>Heap.get?_push_of_some _ e,Il hcl a _ o (xs.map fun q=>q.2.1) es ep q3 ev,⟨_,Heap.get?_push_size _ rfl,rfl,rfl⟩,fun b hb=>?_,f (is.map tI) _ (Itx a o (xs.map fun q=>q.2.1)) H1 θ1 μ1 w1 g1 ⟨?_,fun i H' θ' μ' w' gr hg=>?_⟩ hq⟩
   ·obtain rfl:=List.mem_singleton.mp hb
    exact I1.JH (Nat.le_refl _) (I1.hok.fresh (Nat.le_refl _))
   ·have e1:=Paired.length rel
    simp; lia
   ·obtain ⟨kvs',h1',h2',h3'⟩:=w'.cell n _ a hg (gr.pre n a ha)
    have keep:∀ (j:Nat) (q:List Key×Addr×Value) (l:List Int),xs[j]? = some q->is[j]? = some l->H' q.2.1=some (.tup (l.map V.int)):=fun j q l e1 e2=>by
     have h5:=(Hj w1 rel h2).2 j q l e1 e2
     exact (gr.keep _ _ h5 (yE w1 h5)).1
    have hH:∃ u,H' a=some (.bK o u):=⟨_,h1'⟩
    refine ⟨fun hi=>?_,fun hi=>⟨hH,by simp at hi; simp; lia⟩⟩
    have hi':i < is.length:=by simpa using hi
    have hix:i < xs.length:=by lia
    refine ⟨⟨hH,by simpa using hix⟩,fun y Gu q=>?_⟩
    obtain ⟨rfl,b,e1,rfl⟩:=q
    have hb:b=xs[i].2.1:=by simp [hix] at e1; exact e1.symm
    subst hb
    have h5:=keep i xs[i] is[i] (List.getElem?_eq_getElem hix) (List.getElem?_eq_getElem hi')
    refine ⟨w',au.refl,tI is[i],by simp [hi'],?_⟩
    unfold tI Rep
    exact ⟨_,_,rfl,h5,yE w' h5,xO _⟩
  ·exact hq.elim
 ·exact hq.elim
theorem Mh {a:Expr} {ws:WA} {y:Str} {p pos:Pos} (ey:y=Str.ofString "range") (hg:Gl X y) (hm:X.mg y=none) (ha:PA X [a] (LA X.K ws)) (hs:starEach [a] X.env=[(false,eval a X.env)]) :
  PI X tg (.Call (.Name y p) [a] [] pos) (LI X.K fun ρ μ Q=>ws ρ μ fun ds μ1=>lq 1 ds μ1 Q):=by
 subst ey
 intro pins s σ H R I h
 refine Ji (tg:=tg) hg hm ha hs pins s σ H R I ?_
 obtain ⟨ρ,θ,μ,Qi,sm,h,f⟩:=h
 refine ⟨ρ,θ,μ,_,sm,h,fun ds vs H1 θ1 μ1 w1 g1 r1 h1=>?_⟩
 have hl:lim=16777216:=rfl
 unfold lq at h1
 split at h1
 ·rename_i j _
  obtain ⟨v,r,rfl,r2,r3⟩:=r1.cons_inv
  cases r3.nil_inv
  cases aF r2
  obtain ⟨k1,k2,k3⟩:=h1
  refine ⟨j,rfl,k2,by rw [hl] at k1; lia,f _ _ _ H1 θ1 μ1 w1 g1 (tM ?_) k3⟩
  rw [hl] at k1; rw [sizeLine_eq]; lia
 ·rename_i h2; cases h2
 ·exact h1.elim
theorem Mg {a b:Expr} {ws:WA} {y:Str} {p pos:Pos} (ey:y=Str.ofString "range") (hg:Gl X y) (hm:X.mg y=none) (ha:PA X [a,b] (LA X.K ws)) (hs:starEach [a,b] X.env=[(false,eval a X.env),(false,eval b X.env)]) (hs2:starEach [b] X.env=[(false,eval b X.env)]) :
  PI X tg (.Call (.Name y p) [a,b] [] pos) (LI X.K fun ρ μ Q=>ws ρ μ fun ds μ1=>lq 2 ds μ1 Q):=by
 subst ey
 intro pins s σ H R I h
 refine Jh (tg:=tg) hg hm ha hs hs2 pins s σ H R I ?_
 obtain ⟨ρ,θ,μ,Qi,sm,h,f⟩:=h
 refine ⟨ρ,θ,μ,_,sm,h,fun ds vs H1 θ1 μ1 w1 g1 r1 h1=>?_⟩
 have hl:lim=16777216:=rfl
 unfold lq at h1
 split at h1
 ·rename_i h2; cases h2
 ·rename_i i j _
  obtain ⟨v,r,rfl,r2,r3⟩:=r1.cons_inv
  obtain ⟨w,r,rfl,r4,r5⟩:=r3.cons_inv
  cases r5.nil_inv
  cases aF r2
  cases aF r4
  obtain ⟨⟨k0,k1⟩,k3⟩:=h1
  refine ⟨i,j,rfl,k1,f _ _ _ H1 θ1 μ1 w1 g1 (tM ?_) k3⟩
  rw [hl] at k0; rw [sizeLine_eq]; lia
 ·exact h1.elim
noncomputable def LG (K:PySem.W.Frag) (bnd:D->dI->(dI->Prop)->Prop):TG:=fun v σ H Q=>∃ d ρ θ μ k,qm K σ H ρ θ μ/\Rp K H θ μ d v/\bnd d ρ k/\∀ σ' ρ',qm K σ' H ρ' θ μ->k ρ'->Q σ' H
theorem PG.wk {t t':TG} (h:PG X tg t) (m:∀ v σ H Q,t' v σ H Q->t v σ H Q):PG X tg t':=fun pins s σ H v u Q I r hw=>h pins s σ H v u Q I r (m v σ H Q hw)
theorem Mj {i:Nat} {x:Str} {pos:Pos} (hN:X.N.Nodup) (hi:X.N[i]? = some x) (hx:Loc X.env.scope x) (hf:X.fn x=true∨X.env.scope.names.lookup x=some .local):PG X (.Name x pos) (LG X.K (cL [i] false)) :=
 PG.wk (G3 hN hi hx hf) fun v σ H Q h=>by
  obtain ⟨d,ρ,θ,μ,k,sm,rd,hb,f⟩:=h
  exact f _ _ (sm.set rd i) hb
noncomputable def zP:List Nat->Vg
 | []=>Z7
 | i :: is=>U8 (CJ i) (zP is)
theorem xR {K:PySem.W.Frag} {H:Hp} {θ:List Addr} {μ:Mem} {Q:L2.St->Hp->Prop}:∀ (is:List Nat) (ds:List D) (vs:List V) (σ:L2.St) (ρ:dI),qm K σ H ρ θ μ->gH K H θ μ ds vs->ds.length=is.length ->
  (∀ σ',qm K σ' H ((is.zip ds).foldl (fun r p=>r.set p.1 (some p.2)) ρ) θ μ->Q σ' H)->zP is vs σ H Q
 | [],ds,vs,σ,ρ,sm,rs,hl,f=>by
  have:ds=[]:=by simpa using hl
  subst this
  cases rs.nil_inv
  exact ⟨rfl,f σ (by simpa using sm)⟩
 | i :: is,ds,vs,σ,ρ,sm,rs,hl,f=>by
  cases ds with
  | nil=>simp at hl
  | cons d ds =>
   obtain ⟨v,r,rfl,r1,r2⟩:=rs.cons_inv
   exact ⟨v,r,rfl,xR is ds r (σ.set i (some v)) (ρ.set i (some d)) (sm.set r1 i) r2 (by simpa using hl) (by simpa using f)⟩
theorem Rj {is:List Nat} {es:List Expr} {k:Nat} {pos:Pos} (hc:X.calm=true) (h:Yv X es (zP is)) (hn:(assignEach es X.env).length=is.length) (hst:(assignEach es X.env).findIdx? (·.1)=none):PG X (.Tuple es k pos) (LG X.K (cL is true)) :=
 PG.wk (Wk hc h hn hst) fun v σ H Q q=>by
  obtain ⟨d,ρ,θ,μ,k,sm,rd,hb,f⟩:=q
  unfold cL at hb
  split at hb
  ·rename_i h2; cases h2
  ·split at hb
   ·rename_i ds
    obtain ⟨a,xs,rfl,h1,_,rs⟩:=bR rd
    exact ⟨a,xs,rfl,.of h1,by rw [<- rs.length]; exact hb.1,xR is ds xs σ ρ sm rs hb.1 fun σ' s'=>f σ' _ s' hb.2⟩
   ·exact hb.elim
theorem Q7 {EX:L2.St->XK} {iter:Expr} {body:List Stmt} {wi:WI} {bnd:D->dI->(dI->Prop)->Prop} {wb:WS} {pos:Pos} (hp:PassesOwn (model X.prog X.w) X.A X.env X.xe) (hc:X.calm=true) (hi:PI X tg iter (LI X.K wi)) (hg:PG X tg (LG X.K bnd)) (hb:vV X body (LS X.K EX wb))
  (hs:∀ x,foldedSetIterable iter X.env x=pure x):PS X (.For tg iter body [] pos) (LS X.K EX fun Z ρ μ=>wi ρ μ fun ds g μ1=>tO bnd wb g Z ds ρ μ1):=by
 refine PS.wk (Wj hp hc hi hg hb hs) fun E σ H h=>?_
 obtain ⟨ρ,θ,μ,Z,sm,h,f⟩:=h
 refine ⟨ρ,θ,μ,_,sm,h,fun ds g J H1 θ1 μ1 w1 g1 wk h1=>?_⟩
 have f1:=f.mono g1
 refine ⟨fun i m σ' H'=>m=ds.length - i/\i<=ds.length/\∃ ρ' θ' μ',qm X.K σ' H' ρ' θ' μ'/\au H1 θ1 μ1 H' θ' μ'/\tO bnd wb g Z (ds.drop i) ρ' μ',⟨ds.length,by simp,Nat.zero_le _,ρ,θ1,μ1,sm.grow w1 g1,au.refl,by simpa using h1⟩,?_⟩
 rintro i m σ' H' ⟨rfl,hi',ρ',θ',μ',sm',gr,hl⟩
 by_cases hlt:i < ds.length
 ·right
  have e:ds.drop i=ds[i] :: ds.drop (i + 1):=List.drop_eq_getElem_cons hlt
  rw [e] at hl
  obtain ⟨FW,hl⟩:=hl
  obtain ⟨go,y⟩:=(wk.2 i H' θ' μ' sm'.lJ gr FW).1 hlt
  refine ⟨go,fun σ2 H2=>∃ ρ2 θ2 μ2,qm X.K σ2 H2 ρ2 θ2 μ2/\au H1 θ1 μ1 H2 θ2 μ2/\tO bnd wb g Z (ds.drop (i + 1)) ρ2 μ2,fun σ2 H2 ⟨ρ2,θ2,μ2,s2,g2,l2⟩=>⟨ds.length - (i + 1),by lia,rfl,hlt,ρ2,θ2,μ2,s2,g2,l2⟩,fun x Gu yx=>?_⟩
  obtain ⟨w2,g2,d,ed,rd⟩:=y x Gu yx
  rw [List.getElem?_eq_getElem hlt] at ed
  cases ed
  refine ⟨ds[i],ρ',θ',μ',_,sm'.grow w2 g2,rd,hl,fun σ3 ρ3 s3 q3=>⟨ρ3,θ',μ',_,s3,q3,?_⟩⟩
  have g3:=gr.trans g2
  have f3:=f1.mono g3
  exact ⟨fun σ4 H4 ρ4 θ4 μ4 s4 g4 z4=>⟨ρ4,θ4,μ4,s4,g3.trans g4,z4⟩,f3.rt,fun σ4 H4 ρ4 θ4 μ4 s4 g4 z4=>f3.nx σ4 H4 ρ4 θ4 μ4 s4 g4 z4,fun σ4 H4 ρ4 θ4 μ4 s4 g4 z4=>⟨ρ4,θ4,μ4,s4,g3.trans g4,z4⟩,f3.xc⟩
 ·left
  have e:i=ds.length:=by lia
  subst e
  rw [List.drop_length] at hl
  obtain ⟨FW,hl⟩:=hl
  exact ⟨(wk.2 _ H' θ' μ' sm'.lJ gr FW).2 rfl,f1.nx σ' H' ρ' θ' μ' sm' gr hl⟩
theorem Q6 {EX:L2.St->XK} {c:Expr} {body:List Stmt} {wt:WT} {wb:WS} {pos:Pos} (hp:PassesOwn (model X.prog X.w) X.A X.env X.xe) (hc:PT X c (LT X.K wt)) (hb:vV X body (LS X.K EX wb)) :
  PS X (.While c body [] pos) (LS X.K EX fun Z ρ μ=>∃ W:Nat->dI->Mem->Prop,(∃ m,W m ρ μ)/\∀ m ρ μ,W m ρ μ->wt ρ μ fun t μ1 =>
   if t=true then wb { Z with nx:=fun ρ' μ'=>∃ m',m' < m/\W m' ρ' μ',ct:=fun ρ' μ'=>∃ m',m' < m/\W m' ρ' μ',bk:=Z.nx } ρ μ1 else Z.nx ρ μ1):=by
 refine PS.wk (Lz hp hc hb) fun E σ H h=>?_
 obtain ⟨ρ,θ,μ,Z,sm,⟨W,⟨m0,w0⟩,turn⟩,f⟩:=h
 refine ⟨fun m σ' H'=>∃ ρ' θ' μ',qm X.K σ' H' ρ' θ' μ'/\au H θ μ H' θ' μ'/\W m ρ' μ',⟨m0,ρ,θ,μ,sm,au.refl,w0⟩,?_⟩
 rintro m σ1 H1 ⟨ρ1,θ1,μ1,s1,g1,w1⟩
 refine ⟨ρ1,θ1,μ1,_,s1,turn m ρ1 μ1 w1,fun b H2 θ2 μ2 wk2 g2 q=>?_⟩
 have f2:=f.mono (g1.trans g2)
 cases b with
 | true =>
  rw [if_pos rfl] at q
  dsimp only
  rw [if_pos rfl]
  refine ⟨fun σ3 H3=>∃ ρ3 θ3 μ3 m',m' < m/\qm X.K σ3 H3 ρ3 θ3 μ3/\au H θ μ H3 θ3 μ3/\W m' ρ3 μ3,fun σ3 H3 ⟨ρ3,θ3,μ3,m',hm,s3,g3,w3⟩=>⟨m',hm,ρ3,θ3,μ3,s3,g3,w3⟩,ρ1,θ2,μ2,_,s1.grow wk2 g2,q,?_⟩
  exact ⟨fun σ4 H4 ρ4 θ4 μ4 s4 g4 ⟨m',hm,w4⟩=>⟨ρ4,θ4,μ4,m',hm,s4,(g1.trans g2).trans g4,w4⟩,f2.rt,f2.nx,fun σ4 H4 ρ4 θ4 μ4 s4 g4 ⟨m',hm,w4⟩=>⟨ρ4,θ4,μ4,m',hm,s4,(g1.trans g2).trans g4,w4⟩,f2.xc⟩
 | false =>
  rw [if_neg Bool.false_ne_true] at q
  dsimp only
  rw [if_neg Bool.false_ne_true]
  exact f2.nx σ1 H2 ρ1 θ2 μ2 (s1.grow wk2 g2) au.refl q
theorem QL {K:PySem.W.Frag} {H:Hp} {θ:List Addr} {μ:Mem} {σ:L2.St} {ρ:dI} {cap:List Nat} (n:Nat) (sm:qm K σ H ρ θ μ):qm K (List.replicate n none ++ wR cap σ) H (List.replicate n none ++ cap.map fun i=>(ρ[i]?).join) θ μ:=by
 refine ⟨sm.lJ,by simp [wR],fun i e h=>?_⟩
 by_cases hi:i < n
 ·rw [List.getElem?_append_left (by simpa using hi),List.getElem?_replicate] at h
  split at h <;> cases h
 ·obtain ⟨j,rfl⟩:∃ j,i=n + j:=⟨i - n,by lia⟩
  rw [List.getElem?_append_right (by simp)] at h ⊢
  simp only [List.length_replicate,Nat.add_sub_cancel_left,List.getElem?_map] at h ⊢
  cases q:cap[j]? with
  | none=>rw [q] at h; cases h
  | some k =>
   rw [q] at h
   simp only [Option.map_some,Option.some.injEq] at h
   have hj:ρ[k]? = some (some e):=by
    cases z:ρ[k]? with
    | none=>rw [z] at h; cases h
    | some w=>rw [z] at h; simp only [Option.join_some] at h; rw [h]
   obtain ⟨w,e1,e2⟩:=sm.val k e hj
   refine ⟨w,?_,e2⟩
   simp only [wR,List.getElem?_map,q,Option.map_some,e1,Option.join_some]
theorem uZ (caps:dI):∀ (ds:List D) (pre ρs:dI),ρs.length=ds.length->((List.range' pre.length ds.length).zip ds).foldl (fun r p=>r.set p.1 (some p.2)) (pre ++ ρs ++ caps)=pre ++ ds.map some ++ caps
 | [],pre,ρs,h=>by
  have:ρs=[]:=by simpa using h
  subst this; simp
 | d :: ds,pre,ρs,h=>by
  cases ρs with
  | nil=>simp at h
  | cons r ρs =>
   have ih:=uZ caps ds (pre ++ [some d]) ρs (by simpa using h)
   simp only [List.length_append,List.length_cons,List.length_nil,Nat.zero_add] at ih
   simp only [List.length_cons,List.range'_succ,List.zip_cons_cons,List.foldl_cons]
   have e:(pre ++ r :: ρs ++ caps).set pre.length (some d)=pre ++ [some d] ++ ρs ++ caps:=by simp
   rw [e,ih]
   simp
theorem T7 {n:Nat} {tt:Bool} {d:D} {ρs caps:dI} {k:dI->Prop} (hn:tt=false->n=1) (hl:ρs.length=n) (h:bindC n tt d caps k):cL (List.range n) tt d (ρs ++ caps) fun ρ'=>(∃ ρt:dI,ρt.length=n/\ρ'=ρt ++ caps)/\k ρ':=by
 cases tt with
 | false =>
  cases hn rfl
  match ρs,hl with
  | [r],_=>exact ⟨⟨[some d],rfl,rfl⟩,h⟩
 | true =>
  cases d with
  | tup ds =>
   obtain ⟨h1,h2⟩:=(show ds.length=n/\k (ds.map some ++ caps) from h)
   show ds.length=(List.range n).length/\_
   have e:=uZ caps ds [] ρs (by rw [hl,h1])
   simp only [List.length_nil,List.nil_append] at e
   rw [List.range_eq_range',<- h1,e]
   refine ⟨by simp,⟨⟨ds.map some,by simp,rfl⟩,h2⟩⟩
  | _=>exact False.elim h
theorem Hh {m:Bool} {n:Nat} {tt:Bool} {cap:List Nat} {wi:WI} {cw:WT} {ew:WE} {σ:L2.St} {H:Hp} {Q:VK} (hn:tt=false->n=1)
  (h:LE X.K (fun ρ μ Q=>wi ρ μ fun ds g μ1=>jJ (fun d k=>bindC n tt d (cap.map fun i=>(ρ[i]?).join) k) cw ew g ds [] μ1 fun vs μ2=>newL m vs μ2 Q) σ H Q):Lf n (LG X.K fun d r k=>cL (List.range n) tt d r k) cap (LI X.K wi) (LT X.K cw) (LE X.K ew) σ H Q:=by
 obtain ⟨ρ,θ,μ,Qd,sm,h,f⟩:=h
 refine ⟨ρ,θ,μ,_,sm,h,fun ds g J H1 θ1 μ1 w1 g1 wk h1=>?_⟩
 have f1:=f.mono g1
 have sm1:=sm.grow w1 g1
 refine ⟨fun i k vs σc H'=>k=ds.length - i/\i<=ds.length/\vs.length<=i/\∃ acc θ' μ' ρs,ρs.length=n/\qm X.K σc H' (ρs ++ cap.map fun i=>(ρ[i]?).join) θ' μ'/\au H1 θ1 μ1 H' θ' μ'/\gH X.K H' θ' μ' acc vs/\jJ (fun d k=>bindC n tt d (cap.map fun i=>(ρ[i]?).join) k) cw ew g (ds.drop i) acc μ' fun vs μ2=>newL m vs μ2 Qd,
  ⟨ds.length,by simp,Nat.zero_le _,Nat.le_refl _,[],θ1,μ1,List.replicate n none,by simp,QL n sm1,au.refl,aB.nil,by simpa using h1⟩,?_⟩
 rintro i k vs σc H' ⟨rfl,hi,hv,acc,θ',μ',ρs,hρ,sc,gr,rs,hl⟩
 have w':=sc.lJ
 have hz:=wk.1
 by_cases hlt:i < ds.length
 ·right
  have e:ds.drop i=ds[i] :: ds.drop (i + 1):=List.drop_eq_getElem_cons hlt
  rw [e] at hl
  obtain ⟨FW,hl⟩:=hl
  obtain ⟨go,y⟩:=(wk.2 i H' θ' μ' w' gr FW).1 hlt
  refine ⟨go,by lia,fun x Gu yx=>?_⟩
  obtain ⟨w2,g2,d,ed,rd⟩:=y x Gu yx
  rw [List.getElem?_eq_getElem hlt] at ed
  cases ed
  refine ⟨ds[i],_,θ',μ',_,sc.grow w2 g2,rd,T7 hn hρ hl,fun σ2 ρ2 s2 q2=>?_⟩
  obtain ⟨⟨ρt,ht,rfl⟩,q2⟩:=q2
  refine ⟨_,θ',μ',_,s2,q2,fun b H3 θ3 μ3 w3 g3 q3=>?_⟩
  have g23:=g2.trans g3
  cases b with
  | true =>
   rw [if_pos rfl] at q3
   dsimp only
   rw [if_pos rfl]
   refine ⟨_,θ3,μ3,_,s2.grow w3 g3,q3,fun d4 v4 H4 θ4 μ4 w4 g4 r4 q4=>?_⟩
   have g24:=g23.trans g4
   exact ⟨ds.length - (i + 1),by lia,rfl,hlt,by simp; lia,acc ++ [d4],θ4,μ4,ρt,ht,s2.grow w4 (g3.trans g4),gr.trans g24,(g24.reps rs).append (aB.one r4),q4⟩
  | false =>
   rw [if_neg Bool.false_ne_true] at q3
   dsimp only
   rw [if_neg Bool.false_ne_true]
   exact ⟨ds.length - (i + 1),by lia,rfl,hlt,by lia,acc,θ3,μ3,ρt,ht,s2.grow w3 g3,gr.trans g23,g23.reps rs,q3⟩
 ·left
  have e:i=ds.length:=by lia
  subst e
  rw [List.drop_length] at hl
  obtain ⟨FW,hl⟩:=hl
  exact ⟨by lia,(wk.2 _ H' θ' μ' w' gr FW).2 rfl,fun p hp=>sV w' (f1.mono gr) rs hl hp⟩
end
end DW
end
section
set_option maxHeartbeats 2000000
namespace DW
open PySem PySem.Spec PyProof.Rows L2
section
variable {X:Cx}
theorem tR:∀ (n lo:Nat) (us:List Value),us.length=n->(∀ (j:Nat) (v:Value),us[j]? = some v->∃ t,v = .int ((lo:Int) + (j:Int)) t)->Vals ((List.range' lo n).map fun (k:Nat)=>V.int (k:Int)) us
 | 0,lo,[],_,_=>.nil
 | 0,lo,_ :: _,h,_=>by simp at h
 | n + 1,lo,[],h,_=>by simp at h
 | n + 1,lo,u :: us,h,hv=>by
  rw [List.range'_succ,List.map_cons]
  obtain ⟨t,ht⟩:=hv 0 u rfl
  refine .cons ⟨t,by rw [ht]; simp⟩ (tR n (lo + 1) us (by simpa using h) fun j v hj=>?_)
  obtain ⟨t,ht⟩:=hv (j + 1) v (by simpa using hj)
  exact ⟨t,by rw [ht]; congr 1; push_cast; lia⟩
theorem uy {K:PySem.W.Frag} {H:Hp} {θ:List Addr} {L:Addr->Prop}:∀ (l:List Nat),aB K H θ L (l.map fun (k:Nat)=>D.int (k:Int)) (l.map fun (k:Nat)=>V.int (k:Int))
 | []=>aB.nil
 | k :: l=>by
  rw [List.map_cons,List.map_cons]
  exact aB.cons (by unfold Rep; rfl) (uy l)
theorem Rm {m:Bool} {z:Expr} {w:WE} {y y2:Str} {p p2 pos pos2:Pos} (hc:X.calm=true) (ey:y=Str.ofString "list") (ey2:y2=Str.ofString "range") (hg:Gl X y) (hm:X.mg y=none) (hg2:Gl X y2) (hm2:X.mg y2=none) (he:PE X z (LE X.K w))
  (hs:starEach [z] X.env=[(false,eval z X.env)]) (hs2:starEach [.Call (.Name y2 p2) [z] [] pos2] X.env=[(false,eval (.Call (.Name y2 p2) [z] [] pos2) X.env)]) :
  PE X (.Call (.Name y p) [.Call (.Name y2 p2) [z] [] pos2] [] pos) (LE X.K fun ρ μ Q=>w ρ μ fun d μ1=>DX d μ1 fun j μ2=>(-(2 ^ 62)<=j/\j<=lim)/\newL m (aM 0 j.toNat) μ2 Q):=by
 subst ey ey2
 intro pins s σ H Q I h
 obtain ⟨ρ,θ,μ,Qd,sm,h,f⟩:=h
 refine Call_ (oA I hg hm (show bootBuiltins (Str.ofString "list")=some (.type "list") by decide +kernel) (PyProof.Rows.callWith_type1 ?_ hs2 rfl) (by decide +kernel) (by decide +kernel))
 rw [hs2]
 refine Calls.spliced_cons ?_
 refine Call_ (oA I hg2 hm2 boot_range (PyProof.Rows.callWith_type1 ?_ hs rfl))
 rw [hs]
 refine Calls.spliced_cons (bL (he pins s σ H (fun v H1=>∃ (θ1:List Addr) (μ1:Mem) (j:Int),v = .int j/\cF X.K H1 θ1 μ1/\au H θ μ H1 θ1 μ1/\(-(2 ^ 62)<=j/\j<=lim)/\newL m (aM 0 j.toNat) μ1 Qd) I ⟨ρ,θ,μ,_,sm,h,fun d v H1 θ1 μ1 w1 g1 r1 q=>?_⟩) fun u s1 ⟨x,H1,I1,rx,θ1,μ1,j,ex,w1,g1,⟨j1,j2⟩,q⟩=>?_)
 ·unfold DX at q
  split at q
  ·rename_i j
   cases aF r1
   exact ⟨θ1,μ1,j,rfl,w1,g1,q.1,q.2⟩
  ·exact q.elim
 ·subst ex
  obtain ⟨t,rfl⟩:=rx
  have hl:lim=16777216:=rfl
  rw [hl] at j2
  refine Calls.spliced_nil (call_range_1 (Calls.spliced_nil ?_))
  have I2:Inv X pins σ H1 { s1 with heap:=s1.heap.push { cls:=.type "range",data:=.fields #[.int 0 s1.toks,.int j t,.int 1 (s1.toks + 1)] },toks:=s1.toks + 1 + 1 }:=I1.kept fun b o e=>Heap.get?_push_of_some _ e
  have hn:Builtin.Range.rangeSize 0 j 1=(j.toNat:Nat):=by rw [rangeSize_one]; split <;> lia
  refine call_list_range (I2.ok.hd hc) (IsRange.new ..) (small_one (by lia) (by lia) (by lia) (by lia)) hn (by lia) fun h' tk acc' c' kp e it=>?_
  have hz:(aM 0 j.toNat).length<=sizeLine:=by rw [sizeLine_eq]; simp [aM]; lia
  have vs:Vals ((List.range' 0 j.toNat).map fun (k:Nat)=>V.int (k:Int)) acc'.toList:=tR _ 0 _ (by simpa using it.1) fun i v hv=>by
   obtain ⟨t,ht⟩:=it.2 i v (by simpa using hv)
   exact ⟨t,by rw [ht]; simp⟩
  have e2:aM 0 j.toNat=(List.range' 0 j.toNat).map fun (k:Nat)=>D.int (k:Int):=by simp [aM,List.range_eq_range']
  refine ⟨.ref _,_,I2.laid (t':=tk) kp (Nat.le_refl _) (show aJ X.prog X.w _ h' _ (.lst ((List.range' 0 j.toNat).map fun (k:Nat)=>V.int (k:Int))) from ⟨by simpa [aM] using hz,acc'.toList,c',vs,by simpa using e⟩),rfl,?_⟩
  exact sV w1 (fun d v H2 θ2 μ2 w2 g2 r2 q2=>f d v H2 θ2 μ2 w2 (g1.trans g2) r2 q2) (by rw [e2]; exact uy _) q (I2.hok.fresh (Nat.le_refl _))
end
end DW
end
section
set_option maxHeartbeats 2000000
namespace DW
open PySem PySem.Spec PyProof.Rows L2
section
variable {prog:Program} {w:World} {A:Around} {E:Value->Shared->Prop} {s:Shared}
end
section
variable {X:Cx}
end
end DW
end
section
namespace DW
open PySem PySem.Spec PyProof.Rows L2
section
variable {prog:Program} {w:World} {A:Around} {E:Value->Shared->Prop} {s:Shared}
end
section
variable {prog:Program} {w:World} {A:Around} {E:Value->Shared->Prop} {s:Shared}
end
end DW
end
section
set_option maxHeartbeats 2000000
namespace DW
open PySem PySem.Spec PyProof.Rows L2
theorem Og {X:Cx} {pins:List (Addr×Obj)} {σ:L2.St} {H:Hp} {s:Shared} {h':Heap} {ch:List Addr} {p:Addr} {x y:V} {u v:Value} (I:Inv X pins σ H s) (hf:∀ b∈ch,vK X pins H b)
  (k:∀ b o,b ∉ ch->s.heap.get? b=some o->h'.get? b=some o) (hp:s.heap.objs.size<=p) (np:IsPair h' p u v) (ru:RelV x u) (rv:RelV y v):Inv X pins σ (upd H p (.tup [x,y])) { s with heap:=h' }:=by
 have hn:H p=none:=I.hok.fresh hp
 have up:∀ b u,H b=some u->(upd H p (.tup [x,y])) b=some u:=fun b u e=>by rw [aq (bh e hn)]; exact e
 have UG:∀ b u,H b=some u->b ∉ ch:=fun b u e z=>by
  have:=(hf b z).1
  rw [e] at this; cases this
 refine I.step (t':=s.toks) (g':=s.gens) (d':=s.drawn) (ch:=ch) (fun b hb=>?_) (fun b o _ _ hc e _=>k b o hc e) (fun b o _ _ hc e _=>⟨o.slots,k b o hc e⟩) (fun b o hc e n=>?_) (fun b o hc e=>⟨o,k b o hc e⟩)
  (fun b xs e=>up b _ e) (fun b o u e=>up b _ e) (fun b ps e=>⟨#[],by rw [up b _ e]; simp⟩) (fun m hm=>?_) (fun b u e=>?_) I.bare
 ·obtain ⟨_,f1,_,f3,f4,f5⟩:=hf b hb
  exact ⟨f3,f1,f4,f5⟩
 ·rw [aq (Nat.ne_of_lt (Nat.lt_of_lt_of_le (Heap.lt_size e) hp))]; exact n
 ·obtain ⟨o,es,ep,ho,r⟩:=hm
  exact ⟨o,es,ep,k _ o (fun z=>(hf _ z).2.1 rfl) ho,r⟩
 ·by_cases hb:b=p
  ·subst hb
   rw [aA] at e; cases e
   exact ⟨by rw [sizeLine_eq]; simp,[u,v],.cons ru (.cons rv .nil),⟨_,np,rfl,_,rfl,rfl⟩⟩
  ·rw [aq hb] at e
   refine (I.hok b u e).stay (fun c w hc q=>k c w ?_ q) (fun c q=>up c _ q) fun c xs q=>up c _ q
   rcases hc with z | z
   ·rw [z]; exact UG b u e
   ·exact UG c _ z
section
variable {K:PySem.W.Frag} {H:Hp} {θ:List Addr} {μ:Mem} {ds es:List D} {a b:Addr}
end
section
variable {X:Cx}
end
end DW
end
section
set_option maxHeartbeats 2000000
namespace DW
open PySem PySem.Spec PyProof.Rows L2
section
variable {K:PySem.W.Frag} {H:Hp} {θ:List Addr} {μ:Mem} {ds:List D} {a:Addr}
end
end DW
end
section
set_option maxHeartbeats 2000000
namespace DW
open PySem PySem.Spec PyProof.Rows L2
open AutoSeq1 (wpAny_loadPart')
section
variable {prog:Program} {w:World} {A:Around} {E:Value->Shared->Prop} {s:Shared}
end
section
variable {X:Cx}
end
end DW
end
section
set_option maxHeartbeats 2000000
namespace DW
open PySem PySem.Spec PyProof.Rows L2
noncomputable def YD (p d:Addr):HO:=.ext fun h=>h.IsItemsView p d
theorem Nk {X:Cx}:Qj X "dict.items" (fun x xs H Q=>∃ a kvs,x = .ref a/\xs=[]/\Rd H a (.dT kvs)/\∀ p,H p=none->Q (.ref p) (upd H p (YD p a))):=by
 intro pins s σ H x xs v us Q I rx rv h
 obtain ⟨a,kvs,rfl,rfl,e,q⟩:=h
 cases rx
 cases rv
 obtain ⟨z,hd,xs,rel,o,es,ep,h1,h2,h3,h4,_⟩:=p8 I.hok e
 have T0:s.TypeIs (.ref a) "dict":=⟨o,h1,h2.1⟩
 refine wpAny_call_entry PySem.F.slot_dict_items T0 PySem.F.entry_dict_items ?_ (PySem.F.args_dict_items_1 _)
 unfold Builtin.«dict.items»
 refine wpAny_bind ?_
 unfold Builtin.Dict.noArgs
 refine wpAny_bind (wpAny_notOrdered_dict T0 ?_)
 show wpAny _ _ (pure a) _ _ s
 refine wpAny_pure ?_
 show wpAny _ _ (Builtin.Dict.showsAll a >>= _) _ _ s
 unfold Builtin.Dict.showsAll
 rw [if_neg (by rw [hd]; exact Bool.false_ne_true)]
 refine wpAny_bind (wpAny_pure ?_)
 refine wpAny_bind (wpAny_newObj_type (wpAny_pure ⟨_,rfl,?_⟩))
 have vw:(s.heap.push { cls:=.type "dict_items",data:=.fields #[.ref a] }).IsItemsView s.heap.objs.size a:=⟨_,Heap.get?_push_size _ rfl,rfl,rfl⟩
 refine ⟨.ref s.heap.objs.size,_,I.laid (t':=s.toks) (fun b o e=>Heap.get?_push_of_some _ e) (Nat.le_refl _) (show aJ X.prog X.w _ _ _ (YD s.heap.objs.size a) from ⟨vw,⟨_,Heap.get?_push_size _ rfl⟩,fun h1 h2 ⟨o,q1,q2,q3⟩ k=>⟨o,k o q1,q2,q3⟩⟩),rfl,q _ (I.hok.fresh (Nat.le_refl _))⟩
noncomputable def Ivw (a : Addr) (o : Obj) : L2.It :=
  ⟨fun i H => ∃ kvs, H a = some (.bK o (.dT kvs)) /\ i < kvs.length,
   fun i H y H' => ∃ p b kv kvs, H p = none /\ y = .ref p /\ H' = upd H p (.tup [.ref b, kv.2]) /\ H b = some (.tup (kv.1.map kV)) /\ H a = some (.bK o (.dT kvs)) /\ kvs[i]? = some kv,
   fun i H => ∃ kvs, H a = some (.bK o (.dT kvs)) /\ kvs.length <= i⟩
theorem N8 {H:Hp}:∀ {kvs:List (List Key×V)} {xs:List (List Key×Addr×Value)} {i:Nat} {kv:List Key×V},KT H kvs xs->kvs[i]? = some kv->∃ x,xs[i]? = some x/\H x.2.1=some (.tup (kv.1.map kV))/\RelV kv.2 x.2.2
 | _,_,i,_,.nil,e=>by simp at e
 | _,_,0,_,.cons r _,e=>by simp at e; subst e; exact ⟨_,rfl,r.2.1,r.2.2⟩
 | _,_,i + 1,kv,.cons _ t,e=>by
  obtain ⟨x,h1,h2⟩:=N8 (i:=i) (kv:=kv) t (by simpa using e)
  exact ⟨x,by simpa using h1,h2⟩
theorem Lb {cb:Bool} (hcb:cb=true) {P:Program} {w:World} {K:PySem.W.Frag} {ts:List Expr} {k:Nat} {pos:Pos} (a it:Addr) (o:Obj) (es:Array DictEntry) (ep:Nat) (hd:o.data = .dict es ep) :
  Turn cb P w K (.Tuple ts k pos) (Ivw a o) [it] it (fun i h=>∃ ok ov,IsItemIter h it a i es.size ep ok ov):=by
 have at_:∀ {X:Cx} {pins:List (Addr×Obj)} {σ:L2.St} {H:Hp} {s:Shared} {kvs:List (List Key×V)},Inv X pins σ H s->H a=some (.bK o (.dT kvs))->s.heap.get? a=some o/\es.size=kvs.length/\∀ (i:Nat) (h:i < es.size) (kv:List Key×V),kvs[i]? = some kv->∃ b,es[i].key = .ref b/\H b=some (.tup (kv.1.map kV))/\RelV kv.2 es[i].val:=fun {X pins σ H s kvs} I e=>by
  obtain ⟨q0,_,_,xs,rel,o',es',ep',q1,q2,q3,q4,q5⟩:=(show aJ X.prog X.w H s.heap a (.bK o (.dT kvs)) from I.hok a _ e)
  rw [q0] at q1; cases q1
  rw [hd] at q3; cases q3
  refine ⟨q0,by rw [size_of_entries q4]; exact (Paired.length rel).symm,fun i h kv hk=>?_⟩
  obtain ⟨x,h1,h2,h3⟩:=N8 rel hk
  have:=entry_at q4 i
  rw [h1,Array.getElem?_eq_getElem h] at this
  have e1:=Option.some.inj this
  rw [e1]
  exact ⟨_,rfl,h2,h3⟩
 refine ⟨by simp,fun i h st b hb=>?_,fun i h h' st kk=>?_,?_,?_,fun _ _ _ _ _ st h=>?_⟩
 ·obtain rfl:=List.mem_singleton.mp hb
  obtain ⟨ok,ov,st⟩:=st
  exact ⟨_,st,fun v z=>by cases z⟩
 ·obtain ⟨ok,ov,st⟩:=st
  exact ⟨ok,ov,kk it (by simp) _ st⟩
 ·intro X hP hw hK hc i pins s σ H E I hf st hg
  subst hP hw hK
  obtain ⟨ok,ov,st⟩:=st
  obtain ⟨kvs,e,hi⟩:=hg
  obtain ⟨ho,hsz,hk⟩:=at_ I e
  have hi':i < es.size:=by rw [hsz]; exact hi
  obtain ⟨b,k1,k2,k3⟩:=hk i hi' _ (List.getElem?_eq_getElem hi)
  refine Od st ho hd hi' fun h' io hT kk=>⟨_,rfl,?_⟩
  refine wpAny_letOwnedTupleGo_items (s:={ s with heap:=h' }) io fun h2' hz2 hs2=>?_
  have nz:s.heap.objs.size≠it:=Nat.ne_of_gt (Heap.lt_size st)
  rw [k1] at hT
  have I2:Inv X pins σ (upd H s.heap.objs.size (.tup [.ref b,kvs[i].2])) { s with heap:=h2' }:=Og (ch:=[it]) I (fun q hq=>hf q hq)
   (fun q o hq e=>by
    simp only [List.mem_cons,List.not_mem_nil,or_false] at hq
    exact (hs2.2 q hq).trans (kk q o hq e)) (Nat.le_refl _) ((hs2.2 _ nz).trans hT) rfl k3
  refine ⟨.ref s.heap.objs.size,_,I2,rfl,⟨s.heap.objs.size,b,kvs[i],kvs,I.hok.fresh (Nat.le_refl _),rfl,rfl,k2,e,List.getElem?_eq_getElem hi⟩,⟨_,_,hz2⟩,fun q hq=>?_⟩
  rw [aq]
  ·exact (hf q hq).1
  ·intro e
   subst e
   simp only [List.mem_cons,List.not_mem_nil,or_false] at hq
   exact nz hq
 ·intro X hP hw hK hc i pins s σ H E I hf st hg
  subst hP hw hK
  obtain ⟨ok,ov,st⟩:=st
  obtain ⟨kvs,e,hi⟩:=hg
  obtain ⟨f0,f1,f2,f3,f4,f5⟩:=hf it (by simp)
  obtain ⟨ho,hsz,_⟩:=at_ I e
  exact SN (I.ok.hd (hc.trans hcb)) st ho hd (by lia) fun h' eb=>⟨rfl,I.turned (t':=s.toks) (fun b o hb e=>eb b o hb e) f0 f1 f3 f4 f5⟩
 ·obtain ⟨ok,ov,st⟩:=st
  exact PySem.W.kcp_self st h
theorem Cq:∀ (is:List (List Int)) (ds:List D) (i:Nat) (l:List Int) (d:D),is[i]? = some l->ds[i]? = some d->(j7 is ds)[i]? = some (.tup [tI l,d])
 | [],_,i,_,_,h,_=>by simp at h
 | _ :: _,[],i,_,_,_,h=>by simp at h
 | l :: is,d :: ds,0,_,_,h1,h2=>by simp at h1 h2; subst h1 h2; simp [j7]
 | l :: is,d :: ds,i + 1,l',d',h1,h2=>by
  have:=Cq is ds i l' d' (by simpa using h1) (by simpa using h2)
  simpa [j7] using this
theorem Cp:∀ (is:List (List Int)) (ds:List D),is.length=ds.length->(j7 is ds).length=is.length
 | [],[],_=>rfl
 | [],_ :: _,h=>by simp at h
 | _ :: _,[],h=>by simp at h
 | _ :: is,_ :: ds,h=>by simp [j7,Cp is ds (by simpa using h)]
theorem Oa (l:List Int):((l.map (Sum.inl:Int->aC)).map keyOf).map kV=l.map V.int:=by
 induction l with
 | nil=>rfl
 | cons i l ih=>simp only [List.map_cons,ih]; rfl
theorem Hq {K:PySem.W.Frag} {H:Hp} {θ:List Addr} {μ:Mem}:∀ (l:List Int),gH K H θ μ (l.map D.int) (l.map V.int)
 | []=>aB.nil
 | i :: l=>aB.cons aY (Hq l)
theorem Kl {K:PySem.W.Frag} {H:Hp} {θ:List Addr} {μ:Mem} {is:List (List Int)} {ds:List D} {a:Addr} {n:Nat} {o:Obj} (w1:cF K H θ μ) (ha:θ[n]? = some a) (hn:μ[n]? = some (.jG o (is.map fun l=>l.map Sum.inl) ds)) (hl:is.length<=sizeLine) :
  vG K (Ivw a o) (j7 is ds) (fun μ'=>μ'[n]? = some (.jG o (is.map fun l=>l.map Sum.inl) ds)) H θ μ:=by
 have len:∀ {H':Hp} {θ':List Addr} {μ':Mem},cF K H' θ' μ'->θ'[n]? = some a->μ'[n]? = some (.jG o (is.map fun l=>l.map Sum.inl) ds)->∃ kvs,H' a=some (.bK o (.dT kvs))/\kvs.map (·.1)=(is.map fun l=>l.map (Sum.inl:Int->aC)).map (·.map keyOf)/\gH K H' θ' μ' ds (kvs.map (·.2))/\kvs.length=is.length/\ds.length=is.length:=fun {H' θ' μ'} w' ha' hg=>by
  obtain ⟨kvs,h1,h2,h3⟩:=w'.cell n _ a hg ha'
  have l1:kvs.length=is.length:=by simpa using congrArg List.length h2
  have l2:=h3.length
  rw [List.length_map] at l2
  exact ⟨kvs,h1,h2,h3,l1,by lia⟩
 obtain ⟨_,_,_,_,_,l0⟩:=len w1 ha hn
 have li:(j7 is ds).length=is.length:=Cp is ds l0.symm
 refine ⟨by lia,fun i H' θ' μ' w' gr hg=>?_⟩
 obtain ⟨kvs,h1,h2,h3,l1,_⟩:=len w' (gr.pre n a ha) hg
 refine ⟨fun hi=>⟨⟨kvs,h1,by lia⟩,fun x Gu y=>?_⟩,fun hi=>⟨kvs,h1,by lia⟩⟩
 obtain ⟨p,b,kv,kvs',hp,rfl,rfl,hb,hk,e⟩:=y
 rw [h1] at hk; cases hk
 have hi':i < is.length:=by lia
 have hid:i < ds.length:=by lia
 have ext:∀ c u,H' c=some u->(upd H' p (.tup [.ref b,kv.2])) c=some u:=eU hp
 refine ⟨w'.ext ext,au.ext ext,_,Cq is ds i _ _ (List.getElem?_eq_getElem hi') (List.getElem?_eq_getElem hid),?_⟩
 obtain ⟨v,e1,e2⟩:=h3.get (i:=i) (List.getElem?_eq_getElem hid)
 rw [List.getElem?_map,e] at e1
 cases e1
 have ek:kv.1=(is[i].map (Sum.inl:Int->aC)).map keyOf:=by
  have z:(kvs.map (·.1))[i]? = ((is.map fun l=>l.map (Sum.inl:Int->aC)).map (·.map keyOf))[i]?:=by rw [h2]
  rw [List.getElem?_map,e,List.getElem?_map,List.getElem?_map,List.getElem?_eq_getElem hi'] at z
  exact Option.some.inj z
 rw [ek,Oa] at hb
 unfold Rep
 refine ⟨p,[.ref b,kv.2],rfl,aA,w'.zc hp,aB.cons ?_ (aB.one ((au.ext ext).rep e2))⟩
 unfold tI Rep
 exact ⟨b,_,rfl,ext _ _ hb,yE w' hb,Hq _⟩
section
variable {X:Cx}
theorem Rh {o:Expr} {wo:WE} {apos cpos tp:Pos} {ts:List Expr} {k:Nat} (hcl:X.calm=true) (ho:PE X o (LE X.K wo)) (hbase:attributeBase o (Str.ofString "items") X.env (eval o X.env)=eval o X.env) (hline:(apos.endLine == cpos.line)=true) :
  PI X (.Tuple ts k tp) (.Call (.Attribute o (Str.ofString "items") apos) [] [] cpos) (LI X.K fun ρ μ Q=>wo ρ μ fun x μ1=>Km x μ1 Q):=by
 intro pins s σ H R I h
 obtain ⟨ρ,θ,μ,Qi,sm,h,f⟩:=h
 have pe:=MK (X:=X) (o:=o) (apos:=apos) (cpos:=cpos) (name:=Str.ofString "items") PySem.F.plainAttrs_dict PySem.F.slot_dict_items PySem.F.type_dict_items Nk ho hbase hline
 refine bL (pe pins s σ H (fun v H2=>∃ (n:Nat) (a p:Addr) (o:Obj) (ds:List D) (is:List (List Int)) (θ1:List Addr) (μ1:Mem) (H1:Hp),v = .ref p/\H1 p=none/\H2=upd H1 p (YD p a)/\cF X.K H1 θ1 μ1/\au H θ μ H1 θ1 μ1/\θ1[n]? = some a/\μ1[n]? = some (.jG o (is.map fun l=>l.map Sum.inl) ds)/\Qi (j7 is ds) (fun μ'=>μ'[n]? = some (.jG o (is.map fun l=>l.map Sum.inl) ds)) μ1) I
  ⟨ρ,θ,μ,_,sm,h,fun d v H1 θ1 μ1 w1 g1 r1 h1=>?_⟩) fun v s1 ⟨x,H2,I2,r1,n,a,p,o,ds,is,θ1,μ1,H1,ex,hp,eH,w1,g1,ha,hn,hq⟩=>?_
 ·unfold Km at h1
  split at h1
  ·rename_i n
   split at h1
   ·rename_i o ks ds hn
    obtain ⟨is,rfl,hq⟩:=h1
    obtain ⟨a,rfl,ha⟩:=aO r1
    obtain ⟨kvs,k1,k2,k3⟩:=w1.cell n _ a hn ha
    exact ⟨.inr (.inr (.inl ⟨rfl,.inr ⟨kvs,.inr ⟨o,k1⟩⟩⟩)),a,kvs,rfl,rfl,.inr ⟨o,k1⟩,fun p hp=>⟨n,a,p,o,ds,is,θ1,μ1,H1,rfl,hp,rfl,w1,g1,ha,hn,hq⟩⟩
   ·exact h1.elim
  ·exact h1.elim
 ·subst ex eH
  cases r1
  obtain ⟨kvs,k1,k2,k3⟩:=w1.cell n _ a hn ha
  have ext:∀ c u,H1 c=some u->(upd H1 p (YD p a)) c=some u:=eU hp
  obtain ⟨q0,hz,hs,xs,rel,o',es,ep,q1,q2,q3,q4,q5⟩:=(show aJ X.prog X.w _ s1.heap a (.bK o (.dT kvs)) from I2.hok a _ (ext _ _ k1))
  rw [q0] at q1; cases q1
  have vw:s1.heap.IsItemsView p a:=(show aJ X.prog X.w _ s1.heap p (YD p a) from I2.hok p _ aA).1
  have l1:kvs.length=is.length:=by simpa using congrArg List.length k2
  refine SM vw q0 q3 ?_
  refine ⟨s1.heap.objs.size,[s1.heap.objs.size],_,Ivw a o,_,rfl,I2.kept (t':=s1.toks) fun b o e=>Heap.get?_push_of_some _ e,Lb hcl a _ o es ep q3,⟨_,_,Heap.get?_push_size _ rfl⟩,fun b hb=>?_,f (j7 is ds) _ (Ivw a o) _ θ1 μ1 (w1.ext ext) (g1.trans (au.ext ext)) (Kl (w1.ext ext) ha hn (by lia)) hq⟩
  obtain rfl:=List.mem_singleton.mp hb
  exact I2.JH (Nat.le_refl _) (I2.hok.fresh (Nat.le_refl _))
end
end DW
end
section
set_option maxHeartbeats 2000000
namespace DW
open PySem PySem.Spec PyProof.Rows L2
section
variable {K:PySem.W.Frag} {H:Hp} {θ:List Addr} {μ:Mem} {ds:List D} {a:Addr}
end
section
variable {X:Cx} {tg:Expr}
end
end DW
end
section
set_option maxHeartbeats 2000000
namespace DW
open PySem PySem.Spec PyProof.Rows L2
section
variable {prog:Program} {w:World} {A:Around} {E:Value->Shared->Prop} {s:Shared}
end
end DW
namespace DW
open PySem PySem.Spec PyProof.Rows L2
section
variable {prog:Program} {w:World} {A:Around} {E:Value->Shared->Prop} {s:Shared}
end
end DW
namespace DW
open PySem PySem.Spec PyProof.Rows L2
section
variable {X:Cx}
end
end DW
end
section
set_option maxHeartbeats 2000000
namespace DW
open PySem PySem.Spec PyProof.Rows L2
section
variable {prog:Program} {w:World} {A:Around} {E:Value->Shared->Prop} {s:Shared}
end
end DW
end
section
set_option maxHeartbeats 2000000
namespace DW
open PySem PySem.Spec PyProof.Rows L2
section
variable {prog:Program} {w:World} {A:Around} {E:Value->Shared->Prop} {s:Shared}
end
section
variable {X:Cx}
end
end DW
end
section
namespace DW
open PySem PySem.Spec PyProof.Rows L2
section
variable {X:Cx}
end
set_option maxHeartbeats 1000000
section
variable {prog:Program} {w:World} {A:Around} {R:Result->Shared->Prop} {I l S:Addr} {items:Array Value} {val:Nat->Int} {dv:Value}
end
section
variable {X:Cx}
end
end DW
end
section
set_option maxHeartbeats 2000000
namespace DW
open PySem PySem.W PySem.Spec PySem.Calls PyProof.Rows Builtin.Getset_descriptor
structure jF (K:Frag) (C:Addr):Prop where
 ga:findIn K (.ref C) "__getattribute__" = some (some (.builtin "BaseException.__getattribute__"))
 hk:findIn K (.ref C) "__getattr__" = some none
 ex:mroIn K C (.type "BaseException")=some true
 ob:mroIn K C (.type "object")=some true
 ca:findIn K (.ref C) "__class__" = some (some (.builtin "object.__class__"))
 cg:specialIn K (.builtin "object.__class__") "__get__" = some (some (.builtin "getset_descriptor.__get__"))
 ct:takesIn K (.builtin "object.__class__")=some true
 cl:(clsIn K C).isSome=true
theorem ExcAt.ty {M:Model} {h:Heap} {x C:Addr} (p:ExcAt x C h):Looks M h (typeOf (.ref x)) (.ref C):=by
 obtain ⟨o,h1,h2⟩:=p
 exact h2 ▸ (Looks.ld h1).andThen .now
section
variable {prog:Program} {w:World} {A:Around} {E:Value->Shared->Prop} {s:Shared} {K:Frag} {x C:Addr} {name:Str}
theorem JL {M:Model} {nameV:Value} {Q:Unit->Shared->Prop} (X:K.In s.heap) (I:ExcAt x C s.heap) (c:jF K C) (hq:Q () s) :
  wpAny M A (checkBuiltinCall "BaseException.__getattribute__" ⟨[.ref x,nameV],[]⟩) Q E s:=by
 have hk:builtinKind "BaseException.__getattribute__" = some .slot:=by decide +kernel
 have hsplit:splitId "BaseException.__getattribute__" = some ("BaseException","__getattribute__"):=by decide +kernel
 have LI:Looks M s.heap (isInstance (.ref x) (.type "BaseException")) true:=I.ty.andThen (looks_mroIn X c.ex)
 have ha:=F.args_bexc_ga (.ref x) nameV
 simp only [checkBuiltinCall,hk,hsplit]
 refine wpAny_bind (LI.at ?_)
 repeat (first | assumption | wp_step)
theorem Ge {R:Result->Shared->Prop} {tp:Value} (X:K.In s.heap) (I:ExcAt x C s.heap) (c:jF K C) (h:R (.ok (.ret (.ref C))) s) :
  codeAny (model prog w) A (.call (.builtin "getset_descriptor.__get__") ⟨[.builtin "object.__class__",.ref x,tp],[]⟩) R s:=by
 have ty:=I.ty (M:=model prog w)
 have sub:=looks_mroIn (M:=model prog w) X c.ob
 have isI:Looks (model prog w) s.heap (isInstance (.ref x) (.type "object")) true:=ty.andThen sub
 obtain ⟨hh,g,dr,t,os⟩:=s
 refine codeAny_call_builtin KF.slot_gs.plain KF.entry_gs (KF.slot_gs.check _ _ _ _ _ _ _ _ KF.type_class (KF.args_gs _ _ _) ?_)
 unfold Builtin.«getset_descriptor.__get__» descrGet
 rw [dga_obj]
 refine wpAny_bind (wpAny_pure ?_)
 unfold descrGetter descrCheckInstance descrNameAndClass isInstance
 simp only [KF.owner_class]
 repeat lk
 refine ⟨Code.quiet_builtin _ (by decide +kernel),codeAny_builtin KF.entry_class ?_⟩
 unfold Builtin.«object.__class__» shownTypeOf
 repeat lk
 exact h
theorem JK {Q:Option Value->Shared->Prop} (X:K.In s.heap) (I:ExcAt x C s.heap) (c:jF K C) (h:Q (some (.ref C)) { s with toks:=s.toks + 1 }):wpAny (model prog w) A (getAttr? (.ref x) "__class__") Q E s:=by
 have L0:=I.ty (M:=model prog w)
 have L1:=looks_findIn (M:=model prog w) X c.ga
 have L2:=looks_findIn (M:=model prog w) X c.hk
 have f1:=looks_findIn (M:=model prog w) X c.ca
 have f2:=looks_specialIn (M:=model prog w) X c.cg
 have f3:=looks_takesIn (M:=model prog w) X c.ct
 have fd:Looks (model prog w) s.heap (Builtin.ObjectAttr.find (.ref x) (.ref C) "__class__") (.bind (.builtin "getset_descriptor.__get__") (.builtin "object.__class__")) :=
  f1.andThen (f2.andThen ((show Looks (model prog w) s.heap (Builtin.ObjectAttr.dataDescriptor? (some (.builtin "object.__class__")) (some (.builtin "getset_descriptor.__get__"))) (some (.builtin "getset_descriptor.__get__",.builtin "object.__class__")) from f3.andThen .now).andThen (Looks.tag .now)))
 have bnd:=F.attr_ValueError.ga.bind (.ref x)
 have hx2:(Value.builtin "BaseException.__getattribute__" == Value.builtin "object.__getattribute__")=false:=by decide +kernel
 unfold getAttr? getAttrBy?
 refine wpAny_bind (wpAny_mkText (wpAny_bind (wpAny_attempt ?_)))
 unfold getAttrBy
 refine wpAny_holding (wpAny_bind (L0.at (wpAny_bind (L1.at ?_))))
 simp only [hx2,Bool.and_false,Bool.false_eq_true,if_false]
 unfold getAttrByItsOwn hookBefore
 refine wpAny_bind (L2.at ?_)
 refine wpAny_bind (wpAny_attempt (wpAny_holding ?_))
 unfold callGetattribute
 simp only [Bool.false_and,Bool.false_eq_true,if_false]
 unfold boundAndCalled
 refine wpAny_bind (wpAny_of_eq bnd ?_)
 show wpAny _ _ (call (.builtin "BaseException.__getattribute__") [.ref x,.str "__class__" s.toks]) _ _ _
 refine wpAny_call (codeAny_call_builtin F.attr_ValueError.ga.plain F.entry_bexc_ga (JL (s:={ s with toks:=s.toks + 1 }) X I c ?_))
 unfold Builtin.«object.__getattribute__»
 refine wpAny_bind (wpAny_pure (wpAny_bind (wpAny_pure (wpAny_bind (L0.at (wpAny_bind (fd.at ?_)))))))
 show wpAny _ _ (Builtin.ObjectAttr.bindTo _ _ _ _) _ _ _
 unfold Builtin.ObjectAttr.bindTo
 refine wpAny_bind (wpAny_holding (wpAny_call (Ge (s:={ s with toks:=s.toks + 1 }) X I c ?_)))
 refine wpAny_pure ?_
 show wpAny _ _ (handedOut (.ref C)) _ _ _
 rw [handedOut_of rfl]
 exact wpAny_pure (wpAny_pure h)
end
theorem Cg {K:Frag} {x C:Addr} (c:jF K C):KitX K (.ref x) (.ref C) (ExcAt x C) where
 ty:=fun _ _ _ I=>I.ty
 it:=fun _ _ X _=>by
  have hc:=c.cl
  unfold clsIn at hc
  split at hc
  ·rename_i ho
   intro A' Q' E' s' k q
   unfold isType loadHead
   exact wpAny_bind (wpAny_loadPart (k _ _ (X _ _ ho)) (wpAny_pure q))
  ·cases hc
 ne:=fun h tp dd its n sl X htp=>by
  have hc:=c.cl
  refine Bool.eq_false_iff.mpr fun q=>?_
  have e:C=tp:=Value.ref.inj (beq_iff_eq.mp q)
  subst e
  unfold clsIn at hc
  split at hc
  ·rename_i ho
   have z:=(X _ _ ho).symm.trans htp
   cases z
  ·cases hc
 ca:=fun X I k=>JK X I c k
end DW
end
section
set_option maxHeartbeats 2000000
namespace DW
open PySem PySem.W PySem.Spec PyProof.Rows L2
structure Fly (outer:List Env) (H H':Hp) (h h':Heap) (B:Heap) (ea:Addr) (ob:Obj) (vs:Array Value) (P:Program) (w:World):Prop where
 un:Un (frs outer) [] H H' h h'
 hok:ni P w H' h'
 fl:qt B outer ea ob vs .none h'
 ctx:vs[2]? = some .none
 old:∀ b o,h.get? b=some o->b ∉ frs outer->∃ o',B.get? b=some o'
 Bb:∀ b u,H' b=some u->∃ o,B.get? b=some o
noncomputable def mW (P:Program) (w:World):HY:=fun outer H s E e s' =>
 ∃ (ea:Addr) (ob:Obj) (vs:Array Value) (B:Heap) (H':Hp),e = .ref ea/\s'.os=s.os/\AllBare s'.gens/\Fly outer H H' s.heap s'.heap B ea ob vs P w/\E ob.cls ob.dict H'
structure Leaves (X:Cx) (E:XK):Prop where
 stk:X.stack=X.env :: X.outer
 fr:X.env.frame=some X.env.locals
 ex:X.ex=[]
 xe:X.xe=fun e s'=>wpAny (model X.prog X.w) X.A (leaving X.env e) (fun _ s''=>mW X.prog X.w X.outer X.H₀ X.s₀ E e s'') (fun e' s''=>mW X.prog X.w X.outer X.H₀ X.s₀ E e' s'') s'
theorem Jv {P:Program} {w:World} {K:Frag} {mg:Str->Option Value} {base:Heap} {N:List Str} {qual:Str} {scope:Scope} {f:Addr} {cd:Value} {A:Around} {outer:List Env} {s:Shared} {H:Hp} {E:XK} :
  Leaves (wM (mW P w) P w K mg base N qual scope f cd A outer s H E) E:=⟨rfl,rfl,rfl,rfl⟩
theorem Eh {fs:List Addr} {H0 H:Hp} {h0 h h' B:Heap} {fr:List Addr} (u:Un fs [] H0 H h0 h) (hB:∀ b o,(∃ o0,h0.get? b=some o0)->h.get? b=some o->b ∉ fr->B.get? b=some o) (st:B.StaysIn h')
  (up:∀ b∈fr,∀ o,h.get? b=some o->∃ sl,h'.get? b=some { o with slots:=sl }) (nl:∀ b o,h0.get? b=some o->b∈fr->b∈fs):Un fs [] H0 H h0 h' where
 keep:=fun b o q n hb hx=>by
  have e:=u.keep b o q n hb hx
  exact st b o (hB b o ⟨o,q⟩ e fun z=>hb (nl b o q z))
 slot:=fun b o q n hb hx=>by
  obtain ⟨sl,e⟩:=u.slot b o q n hb hx
  by_cases z:b∈fr
  ·obtain ⟨sl',e'⟩:=up b z _ e
   exact ⟨sl',e'⟩
  ·exact ⟨sl,st b _ (hB b _ ⟨o,q⟩ e z)⟩
 free:=u.free
 there:=fun b o q hx=>by
  obtain ⟨o',e⟩:=u.there b o q hx
  by_cases z:b∈fr
  ·obtain ⟨sl',e'⟩:=up b z _ e
   exact ⟨_,e'⟩
  ·exact ⟨o',st b _ (hB b _ ⟨o,q⟩ e z)⟩
 tups:=u.tups
 iu:=u.iu
 jA:=u.jA
theorem zN {P:Program} {w:World} {H:Hp} {h h' B:Heap} (hok:ni P w H h) (hB:∀ b u,H b=some u->∃ o,B.get? b=some o) (s1:B.StaysIn h) (st:B.StaysIn h'):ni P w H h':=fun a o e=>by
 have k:∀ b v,H b≠none->h.get? b=some v->h'.get? b=some v:=fun b v hb hv=>by
  cases q:H b with
  | none=>exact absurd q hb
  | some u =>
   obtain ⟨o',e'⟩:=hB b u q
   have:=s1 b o' e'
   rw [hv] at this; cases this
   exact st b _ e'
 refine (hok a o e).stay (fun b u hb q=>k b u ?_ q) (fun _ q=>q) fun _ _ q=>q
 rcases hb with rfl | z
 ·rw [e]; simp
 ·rw [z]; simp
theorem xr {P:Program} {w:World} {H:Hp} {h:Heap} {a:Addr} {o:HO} (x:aJ P w H h a o):∃ ob,h.get? a=some ob:=by
 induction o with
 | lst xs=>obtain ⟨_,_,_,_,e⟩:=x; exact ⟨_,e⟩
 | tup xs=>obtain ⟨_,_,_,ob,e,_⟩:=x; exact ⟨_,e⟩
 | dK kvs=>obtain ⟨_,_,_,_,o,_,_,e,_⟩:=x; exact ⟨_,e⟩
 | dT kvs=>obtain ⟨_,_,_,_,o,_,_,e,_⟩:=x; exact ⟨_,e⟩
 | set S n=>obtain ⟨o,_,_,_,e,_⟩:=x; exact ⟨_,e⟩
 | ins C dx fs=>obtain ⟨_,_,_,e,_⟩:=x; exact ⟨_,e⟩
 | own y=>exact x
 | xd fs=>obtain ⟨_,⟨_,_,_,e,_⟩,_⟩:=x; exact ⟨_,e⟩
 | rng lo hi=>obtain ⟨_,_,_,e⟩:=x; exact ⟨_,e⟩
 | bK ob u ih=>obtain ⟨e,_⟩:=x; exact ⟨_,e⟩
 | Em ps=>first | exact ⟨_,x⟩ | exact ⟨_,x.1⟩
 | met f y=>exact ⟨_,x⟩
 | ext φ=>obtain ⟨_,e,_⟩:=x; exact e
section
variable {X:Cx} {E E':XK} {pins:List (Addr×Obj)} {σ:L2.St} {H:Hp} {s s':Shared} {e:Value}
theorem Ov {l:List Env} {base h h':Heap} (F:h.FunFrames base l) (up:h.UpToSlots h'):∀ b∈frs l,∀ o,h.get? b=some o->∃ sl,h'.get? b=some { o with slots:=sl }:=fun b hb o ho=>by
 obtain ⟨_,o',e',nf⟩:=F.mem hb
 rw [ho] at e'; cases e'
 exact up b o ho nf
theorem Xz (L:Leaves X E):frs X.stack=X.env.locals :: X.fs:=by rw [L.stk]; unfold frs; rw [List.filterMap_cons,L.fr]; rfl
theorem sU (L:Leaves X E) (I:Inv X pins σ H s) {b:Addr} {o:Obj} (q:X.s₀.heap.get? b=some o) (z:b∈frs X.stack):b∈X.fs:=by
 rw [Xz L] at z
 rcases List.mem_cons.mp z with z | z
 ·exact absurd (Heap.lt_size q) (by rw [z]; exact Nat.not_lt.mpr I.ok.above)
 ·exact z
theorem Q0 {ea:Addr} {ob:Obj} {ws:Array Value} (L:Leaves X E) (I:Inv X pins σ H s) (he:s.heap.get? ea=some { ob with data:=.fields ws }) (h0:X.s₀.heap.get? ea=none) (hn:H ea=none) (z:2 < ws.size) (h1:ws[1]? = some .none) (h2:ws[2]? = some .none)
  (hE:E ob.cls ob.dict H):X.xe (.ref ea) s:=by
 rw [L.xe]
 have hfr:X.A.frames=some (X.env :: X.outer):=by rw [I.ok.frames,L.stk]
 have F:=I.stack
 have nf:ea ∉ frs X.stack:=fun q=>by
  obtain ⟨_,o,ho,nf⟩:=F.mem q
  rw [he] at ho; cases ho; exact nf ws rfl
 have hm:∀ env∈X.stack,∀ a,env.frame=some a->a∈ea :: frs X.stack:=fun env he a ha=>List.mem_cons_of_mem _ (List.mem_filterMap.mpr ⟨env,he,ha⟩)
 have F2:s.heap.FunFrames (hideAll s.heap (ea :: frs X.stack)) (X.env :: X.outer):=by rw [<- L.stk]; exact funFrames_hide F hm
 have hB:∀ b o,s.heap.get? b=some o->b≠ea->b ∉ frs X.stack->(hideAll s.heap (ea :: frs X.stack)).get? b=some o:=fun b o q n z=>hideAll_get _ q fun y=>(List.mem_cons.mp y).elim n z
 have old:∀ b o,X.s₀.heap.get? b=some o->b≠ea:=fun b o q z=>by subst z; rw [h0] at q; cases q
 refine Hg (B:=hideAll s.heap (ea :: frs X.stack)) hfr F2 L.fr he (fun b o q=>of_hideAll _ q) (hideAll_none _ List.mem_cons_self) z (.inl h1) fun h3 fl up=>?_
 have hbase:Un X.fs [] X.H₀ H X.s₀.heap s.heap:=by have:=I.base; rw [L.ex] at this; exact this
 have Bb:∀ b u,H b=some u->∃ o,(hideAll s.heap (ea :: frs X.stack)).get? b=some o:=fun b u q=>by
  have nb:b ∉ frs X.stack:=fun z=>by rw [I.yN b z] at q; cases q
  obtain ⟨o,ho⟩:∃ o,s.heap.get? b=some o:=xr (I.hok b u q)
  exact ⟨o,hB b o ho (fun z=>by rw [z,hn] at q; cases q) nb⟩
 refine ⟨ea,ob,ws,hideAll s.heap (ea :: frs X.stack),H,rfl,I.os,I.bare,⟨?_,?_,fl,h2,?_,Bb⟩,hE⟩
 ·exact Eh hbase (fun b o ⟨o0,q0⟩ q z=>hB b o q (old b o0 q0) z) fl.stay (Ov F up) fun b o q z=>sU L I q z
 ·exact zN I.hok Bb (fun b o q=>of_hideAll _ q) fl.stay
 ·intro b o q z
  obtain ⟨o',e'⟩:=hbase.there b o q (by simp)
  exact ⟨o',hB b o' e' (old b o q) fun y=>z (sU L I q y)⟩
theorem Lr {ea:Addr} {cls:Value} {us:List Value} {h':Heap} (L:Leaves X E) (I:Inv X pins σ H s) (hx:Heap.MadeExcOf s.heap h' ea cls us) (hE:E cls none H):X.xe (.ref ea) { s with heap:=h' }:=by
 obtain ⟨t,he,_,_⟩:=hx.there
 have n0:∀ o,X.s₀.heap.get? ea≠some o:=fun o q=>by
  obtain ⟨o',e'⟩:=I.base.there ea o q (by rw [L.ex]; simp)
  rw [hx.new] at e'; cases e'
 have hn:H ea=none:=by
  cases q:H ea with
  | none=>rfl
  | some u =>
   obtain ⟨o,ho⟩:=xr (I.hok ea u q)
   rw [hx.new] at ho; cases ho
 refine Q0 (ob:={ cls:=cls,data:=.fields #[] }) (ws:=#[.ref t,.none,.none,.none,.bool false,.none]) L (I.kept (t':=s.toks) hx.keeps) he ?_ hn (by simp) rfl rfl hE
 cases q:X.s₀.heap.get? ea with
 | none=>rfl
 | some o=>exact absurd q (n0 o)
theorem Hw {H':Hp} {B:Heap} {ea:Addr} {ob:Obj} {vs:Array Value} (I:Inv X pins σ H s) (ho:s'.os=s.os) (hg:AllBare s'.gens) (F:Fly X.stack H H' s.heap s'.heap B ea ob vs X.prog X.w):Inv X pins σ H' s' :=
 I.call' (ch:=[]) ho F.un F.hok hg fun b z=>absurd z (by simp)
theorem Tz (L:Leaves X E) (I:Inv X pins σ H s) (hE:∀ cls dx H',E' cls dx H'->E cls dx H') (h:mW X.prog X.w X.stack H s E' e s'):X.xe e s':=by
 obtain ⟨ea,ob,vs,B,H',rfl,ho,hg,F,q⟩:=h
 have I':=Hw I ho hg F
 rw [L.xe]
 have hfr:X.A.frames=some (X.env :: X.outer):=by rw [I.ok.frames,L.stk]
 have fl:=F.fl
 have F0:s'.heap.FunFrames B X.stack:=fl.Gb
 rw [L.stk] at fl
 have hbase:Un X.fs [] X.H₀ H' X.s₀.heap s'.heap:=by have:=I'.base; rw [L.ex] at this; exact this
 have Ga:Un X.fs [] X.H₀ H X.s₀.heap s.heap:=by have:=I.base; rw [L.ex] at this; exact this
 refine NQ hfr L.fr fl fun h2 fl2 up=>?_
 have inB:∀ b,(∃ o0,X.s₀.heap.get? b=some o0)->b ∉ frs X.stack->∃ o',B.get? b=some o':=fun b ⟨o0,q0⟩ z=>by
  obtain ⟨o1,e1⟩:=Ga.there b o0 q0 (by simp)
  exact F.old b o1 e1 z
 refine ⟨ea,ob,vs,B,H',rfl,I'.os,I'.bare,⟨?_,?_,fl2,F.ctx,?_,F.Bb⟩,hE _ _ H' q⟩
 ·refine Eh hbase (fun b o hb q0 z=>?_) fl2.stay (Ov F0 up) fun b o q0 z=>sU L I q0 z
  obtain ⟨o',e'⟩:=inB b hb z
  have:=fl.stay b o' e'
  rw [q0] at this; cases this
  exact e'
 ·exact zN F.hok F.Bb fl.stay fl2.stay
 ·intro b o q0 z
  exact inB b ⟨o,q0⟩ fun y=>z (sU L I q0 y)
end
end DW
end
section
set_option maxHeartbeats 2000000
namespace DW
open PySem PySem.W PySem.Spec PyProof.Rows L2
abbrev Ph:List Value:=[.type "ValueError",.type "Exception",.type "BaseException",.type "object"]
theorem Ti {K:Frag} {h:Heap} {C:Addr} {bmB:List Value} {newId:String} (X:K.In h) (q:excIn K C bmB newId=true) :
  ∃ bm N nm qn bs hdct sn sub ab col dd k0 k1 k2 k3 k5 mN,h.get? C=some (excClassObj nm qn C N bs bm hdct sn sub ab col dd k0 k1 k2 k3 k5 newId)/\h.Ns N mN/\mN "__init__" = none/\OwnTail h bmB bm:=by
 unfold excIn at q
 split at q
 ·rename_i dd cd sl ho
  split at q
  ·rename_i C' bm k0 k1 k2 k3 n k5 hm hs
   rw [Bool.and_eq_true,Bool.and_eq_true,Bool.and_eq_true,Bool.and_eq_true,Bool.and_eq_true] at q
   obtain ⟨⟨⟨⟨⟨e1,e2⟩,e3⟩,ht⟩,hok⟩,hni⟩:=q
   have e1:=beq_iff_eq.mp e1
   have e2:=beq_iff_eq.mp e2
   have e3:cd.hasDel=false:=by simpa using e3
   have hni:=beq_iff_eq.mp hni
   subst e1 e2
   obtain ⟨l⟩:=sl
   have hs':l=[k0,k1,k2,k3,some (.builtin n),k5]:=hs
   subst hs'
   obtain ⟨nm,bs,mro,ns,qn,hd,sn,sub,ab,col,del⟩:=cd
   have hm':mro = .ref C' :: bm:=hm
   have e3':del=false:=e3
   subst hm' e3'
   exact ⟨bm,ns,nm,qn,bs,hd,sn,sub,ab,col,dd,k0,k1,k2,k3,k5,_,X _ _ ho,.of_isNs (isNs_of_in X hok),nsMap_none_of_in X hok hni,tail_of_in X ht⟩
  ·cases q
 ·cases q
section
variable {X:Cx} {E:XK} {x:Str} {C:Addr} {np cpos pos:Pos} {args:List Expr} {t:TA}
theorem LC {B newId initId:String} {bmB:List Value} (FB:ExcBaseFacts B newId initId bmB) (L:Leaves X E) (hc:X.calm=true) (hg:Gl X x) (hm:X.mg x=some (.ref C)) (q:excIn X.K C bmB newId=true) (ha:PA X args t)
  (hpl:(backTo cpos (starEach args X.env)).any (·.1)=false) (hd:(x == ("__debug__" : Str))=false) (hst:args=[]∨∃ e es,args=e :: es/\starEach (e :: es) X.env=(false,eval e X.env) :: starEach es X.env) :
  PS X (.Raise (some (.Call (.Name x np) args [] cpos)) none pos) (fun D σ H=>t σ H fun vs H1=>vs.length<=sizeLine/\E (.ref C) none H1):=by
 intro pins s σ H D I h
 obtain ⟨bm,N,nm,qn,bs,hdct,sn,sub,ab,col,dd,k0,k1,k2,k3,k5,mN,hC,hN,hni,T⟩:=Ti I.mod.ZF q
 refine wpAny_Raise_call_subT (C:=C) (nm:=nm) (q:=qn) (N:=N) (bs:=bs) (bm:=bm) (hdct:=hdct) (sn:=sn) (sub:=sub) (ab:=ab) (col:=col) (dd:=dd) (k0:=k0) (k1:=k1) (k2:=k2) (k3:=k3) (k5:=k5)
  FB (mN:=mN) (T.hasType FB.hasBase) (I.ok.hd hc) hpl hni (j5 I hg hm ⟨rfl,?_⟩ hd)
 have fin:wpAny (model X.prog X.w) X.A (spliced (backTo cpos (starEach args X.env))) (fun vs s₂=>vs.length<=sizeLine/\s₂.heap.get? C=some (excClassObj nm qn C N bs bm hdct sn sub ab col dd k0 k1 k2 k3 k5 newId)/\s₂.heap.Ns N mN/\OwnTail s₂.heap bmB bm /\
   ∀ h' e,Heap.MadeExcOf s₂.heap h' e (.ref C) vs->X.xe (.ref e) { s₂ with heap:=h' }) X.xe s:=by
  refine bL (ha cpos pins s σ H _ I h) fun us s2 ⟨vs,H2,I2,r,z,hE⟩=>?_
  exact ⟨by rw [<- r.length]; exact z,I2.bk _ _ hC,hN.keeps I2.bk,T.keeps I2.bk,fun h' e hx=>Lr L I2 hx hE⟩
 rcases hst with rfl | ⟨e,es,rfl,he⟩
 ·unfold evalArgs
  show wpAny _ _ (spliced (backTo cpos (starEach [] X.env)) >>= _) _ _ _
  exact wpAny_bind (wpAny_mono fin (fun vs s' h'=>wpAny_holding (wpAny_bind (wpAny_pure (wpAny_bind (wpAny_pure (wpAny_pure ⟨rfl,h'⟩)))))) fun _ _ y=>y)
 ·rw [he] at fin ⊢
  exact Calls.evalArgs_plain (wpAny_mono fin (fun vs s₂ h₂=>⟨rfl,h₂⟩) fun _ _ y=>y)
end
noncomputable def Meets (X:Cx) (EX:L2.St->XK):Prop:=∀ (pins:List (Addr×Obj)) (σ:L2.St) (H:Hp) (s:Shared) (E':XK) (e:Value) (s':Shared),Inv X pins σ H s->(∀ cls dx H',E' cls dx H'->EX σ cls dx H')->mW X.prog X.w X.stack H s E' e s'->X.xe e s'
theorem meets_of {X:Cx} {E:XK} (L:Leaves X E):Meets X fun _=>E:=fun pins σ H s E' e s' I hE h=>Tz L I hE h
section
variable {X:Cx} {EX:L2.St->XK} {k:Nat} {f C:Addr} {fd:FuncData} {ps:List Str} {sp:Sp} {x m:Str} {p pos apos:Pos} {e o:Expr} {es:List Expr} {ta:TE} {t:TA}
theorem GQ {pins:List (Addr×Obj)} {σ:L2.St} {H:Hp} {s:Shared} {Q:VK} {us:List Value} {vs:List V} (F:cQ X.prog X.w X.K X.mg X.base (mW X.prog X.w) k f fd ps sp) (hr:bU k X.A) (hb:Binds X.K fd ps []) (M:Meets X EX)
  (I:Inv X pins σ H s) (r:Vals vs us) (h:sp vs H Q (EX σ)):wpAny (model X.prog X.w) X.A (call (.ref f) us) (EP X pins σ Q) X.xe s:=by
 have hl:us.length=ps.length:=by rw [<- r.length]; exact F.len _ _ _ _ h
 have hb':=hb s us I.tu (by simpa using hl)
 rw [List.append_nil] at hb'
 refine wpAny_call (codeAny_mono (F.run X.A X.stack s H ⟨us,[]⟩ us vs Q (EX σ) hr I.env0 hb' r h) fun r s' hq=>?_)
 cases r with
 | error e=>exact M pins σ H s (EX σ) e s' I (fun _ _ _ z=>z) hq
 | ok fl =>
  cases fl with
  | ret u=>exact I.after hq
  | next=>exact False.elim hq
  | brk=>exact False.elim hq
  | cont=>exact False.elim hq
theorem Mz (F:cQ X.prog X.w X.K X.mg X.base (mW X.prog X.w) k f fd ps sp) (hr:bU k X.A) (hg:Gl X x) (hm:X.mg x=some (.ref f)) (hk:PySem.W.keepIn X.K (.ref f)=true) (hb:Binds X.K fd ps []) (M:Meets X EX)
  (ha:PA X (e :: es) t) (hdb:(x == ("__debug__" : Str))=false) (he:starEach (e :: es) X.env=(false,eval e X.env) :: starEach es X.env) (hpl:(backTo pos (starEach es X.env)).any (·.1)=false) :
  PE X (.Call (.Name x p) (e :: es) [] pos) (fun σ H Q=>t σ H fun vs H1=>sp vs H1 Q (EX σ)):=by
 intro pins s σ H Q I h
 refine wpAny_Call_Name_kw (j5 I hg hm ?_ hdb)
 refine PySem.W.callWith_K (h₀:=X.base) I.ok.mod.ZF hk (bL (ha pos pins s σ H _ I h) fun us s1 ⟨vs,H1,I1,r,q⟩=>⟨I1.tu,?_⟩) he hpl
 exact GQ F hr hb M I1 r q
theorem Jk (F:cQ X.prog X.w X.K X.mg X.base (mW X.prog X.w) k f fd ps sp) (hr:bU k X.A) (hg:Gl X x) (hm:X.mg x=some (.ref f)) (hk:PySem.W.keepIn X.K (.ref f)=true) (hb:Binds X.K fd ps []) (M:Meets X EX)
  (hdb:(x == ("__debug__" : Str))=false):PE X (.Call (.Name x p) [] [] pos) (fun σ H Q=>sp [] H Q (EX σ)):=by
 intro pins s σ H Q I h
 refine wpAny_Call_Name_kw (j5 I hg hm ?_ hdb)
 exact PySem.W.callWith_K0 I.tu hk (GQ (us:=[]) F hr hb M I .nil h)
end
end DW
end
section
set_option maxHeartbeats 2000000
namespace DW
open PySem PySem.W PySem.Spec PyProof.Rows L2
noncomputable def Xh (X:Cx) (ea:Addr):Cx:={ X with A:=X.A.mark (some (.ref ea)),calm:=false,xe:=fun _ _=>False }
section
variable {X:Cx} {pins:List (Addr×Obj)} {σ:L2.St} {H H':Hp} {s s':Shared} {ea:Addr} {oe:Obj}
theorem abu (ok:X.Ok):(Xh X ea).Ok:=⟨ok.mod,ok.kind,ok.glob,ok.blt,ok.above,ok.inj,ok.has,ok.cab,fun z=>(Bool.false_ne_true z).elim,ok.frames,ok.stk,ok.exf,ok.bs,ok.J5,ok.BJ,ok.Gd,ok.oF,ok.Qf⟩
theorem ZM {oe:Obj} {u:HO} {vs:Array Value} (I:Inv X pins σ H s) (he:H ea=some (.bK oe u)) (hd:oe.data = .fields vs) (h2:vs[2]? = some .none):Inv (Xh X ea) pins σ H s :=
 ⟨abu I.ok,I.os,I.bare,I.base,I.loc,I.cell,I.free,I.cD,I.pin,I.hok,I.len,fun v q=>⟨ea,oe,u,vs,(Option.some.inj (show some (Value.ref ea)=some v from q)).symm,he,hd,h2⟩⟩
theorem SX (hc:X.calm=true) (ok:X.Ok) (I:Inv (Xh X ea) pins σ H s):Inv X pins σ H s :=
 ⟨ok,I.os,I.bare,I.base,I.loc,I.cell,I.free,I.cD,I.pin,I.hok,I.len,fun v q=>by rw [ok.hd hc] at q; cases q⟩
theorem Jz {a:Addr} {o:Obj} {φ:Heap->Prop} (I:Inv X pins σ H s) (hn:H a=none) (ho:s.heap.get? a=some o) (h0:X.s₀.heap.get? a=none) (hl:a≠X.env.locals) (hc:∀ v,o.data≠.cell v) (hp:∀ p∈X.pn ++ pins,p.1≠a)
  (hφ:φ s.heap) (hst:∀ h1 h2:Heap,φ h1->(∀ o,h1.get? a=some o->h2.get? a=some o)->φ h2):Inv X pins σ (upd H a (.bK o (.ext φ))) s:=by
 have ne:∀ b u,H b=some u->b≠a:=fun b u e=>bh e hn
 refine ⟨I.ok,I.os,I.bare,⟨I.base.keep,I.base.slot,fun b ob q n hx=>?_,I.base.there,fun b xs q=>?_,fun b ob u q=>?_,fun b ps q=>?_⟩,I.loc,I.cell,?_,fun x c e=>?_,fun p hpp=>?_,fun b u e=>?_,I.len,I.hh.mono fun b o u q=>by rw [aq (ne b _ q)]; exact q⟩
 ·have:b≠a:=by rintro rfl; rw [h0] at q; cases q
  rw [aq this]; exact I.base.free b ob q n hx
 ·have:=I.base.tups b xs q
  rw [aq (ne b _ this)]; exact this
 ·have:=I.base.iu b ob u q
  rw [aq (ne b _ this)]; exact this
 ·obtain ⟨more,this⟩:=I.base.jA b ps q
  exact ⟨more,by rw [aq (ne b _ this)]; exact this⟩
 ·rw [aq (Ne.symm hl)]; exact I.free
 ·obtain ⟨v,oc,q1,q2⟩:=I.cell x c e
  have:c≠a:=by rintro rfl; rw [ho] at q1; cases q1; exact hc v q2
  rw [aq this]; exact I.cD x c e
 ·obtain ⟨q1,q2,q3,q4,q5⟩:=I.pin p hpp
  exact ⟨q1,by rw [aq (hp p hpp)]; exact q2,q3,q4,q5⟩
 ·by_cases hb:b=a
  ·subst hb
   rw [aA] at e; cases e
   exact ⟨ho,hφ,⟨o,ho⟩,hst⟩
  ·rw [aq hb] at e
   exact (I.hok b u e).stay (fun _ _ _ q=>q) (fun c q=>by rw [aq (ne c _ q)]; exact q) fun c xs q=>by rw [aq (ne c _ q)]; exact q
theorem S5 {B:Heap} {h':Heap} {tk:Nat} (ex:X.ex=[]) (stk:X.stack=X.env :: X.outer) (fr:X.env.frame=some X.env.locals) (I0:Inv X pins σ H s) (I:Inv X pins σ H' s')
  (old:∀ b o,s.heap.get? b=some o->b ∉ frs X.stack->∃ o',B.get? b=some o') (Bb:∀ b u,H' b=some u->∃ o,B.get? b=some o) (s1:B.StaysIn s'.heap) (s2:B.StaysIn h') (up:s'.heap.UpToSlots h') (F0:s'.heap.FunFrames B X.stack) :
  Inv X pins σ H' { s' with heap:=h',toks:=tk }:=by
 have S8:frs X.stack=X.env.locals :: X.fs:=by rw [stk]; unfold frs; rw [List.filterMap_cons,fr]; rfl
 have out:∀ b o,X.s₀.heap.get? b=some o->b∈frs X.stack->b∈X.fs:=fun b o q z=>by
  rw [S8] at z
  rcases List.mem_cons.mp z with z | z
  ·exact absurd (Heap.lt_size q) (by rw [z]; exact Nat.not_lt.mpr I.ok.above)
  ·exact z
 have kept:∀ b o0 o,s.heap.get? b=some o0->b ∉ frs X.stack->s'.heap.get? b=some o->B.get? b=some o:=fun b o0 o q0 z q=>by
  obtain ⟨o',e'⟩:=old b o0 q0 z
  have:=s1 b o' e'
  rw [q] at this; cases this
  exact e'
 have hbase:Un X.fs [] X.H₀ H' X.s₀.heap s'.heap:=by have:=I.base; rw [ex] at this; exact this
 have Ga:Un X.fs [] X.H₀ H X.s₀.heap s.heap:=by have:=I0.base; rw [ex] at this; exact this
 have fup:=Ov F0 up
 have cellK:∀ x c v,X.env.cells.lookup x=some c->s'.heap.IsCell c v->h'.IsCell c v:=fun x c v e ⟨o,ho,hd⟩=>by
  by_cases z:c∈frs X.stack
  ·obtain ⟨sl,e'⟩:=fup c z o ho
   exact ⟨_,e',hd⟩
  ·obtain ⟨v0,o0,h0,_⟩:=I0.cell x c e
   exact ⟨o,s2 c o (kept c o0 o h0 z ho),hd⟩
 refine ⟨I.ok,I.os,I.bare,?_,?_,fun x c e=>?_,I.free,I.cD,fun p hp=>?_,zN I.hok Bb s1 s2,I.len,I.hh⟩
 ·rw [ex]
  refine Eh hbase (fun b o ⟨o0,q0⟩ q z=>?_) s2 fup out
  obtain ⟨o1,e1⟩:=Ga.there b o0 q0 (by simp)
  exact kept b o1 o e1 z q
 ·obtain ⟨m,hn,hl⟩:=I.loc
  refine ⟨m,up.ns hn,fun i x v e1 e2 e3=>?_⟩
  obtain ⟨u,r,l⟩:=hl i x v e1 e2 e3
  refine ⟨u,r,?_⟩
  rcases l with l | ⟨k,c,e,z⟩
  ·exact .inl l
  ·exact .inr ⟨k,c,e,cellK x c _ e z⟩
 ·obtain ⟨v,hv⟩:=I.cell x c e
  exact ⟨v,cellK x c v e hv⟩
 ·obtain ⟨q1,q2,q3,q4,q5⟩:=I.pin p hp
  obtain ⟨p1,_,_,_,_⟩:=I0.pin p hp
  refine ⟨s2 _ _ (kept p.1 _ _ p1 ?_ q1),q2,q3,q4,q5⟩
  rw [S8]
  intro z
  rcases List.mem_cons.mp z with z | z
  ·exact q3 z
  ·exact q4 z
theorem Oh {h':Heap} {m':Str->Option Value} {tk:Nat} (I:Inv X pins σ H s) (hn':h'.Ns X.env.locals m') (hs:Heap.SameBut X.env.locals s.heap h'):Inv X pins (List.replicate X.N.length none) H { s with heap:=h',toks:=tk }:=by
 have Yo:∀ b o,X.s₀.heap.get? b=some o->b≠X.env.locals:=fun b o e=>Nat.ne_of_lt (Nat.lt_of_lt_of_le (Heap.lt_size e) I.ok.above)
 have k:∀ b o,b≠X.env.locals->s.heap.get? b=some o->h'.get? b=some o:=fun b o hb q=>(hs.2 b hb).trans q
 refine ⟨I.ok,I.os,I.bare,⟨fun b o e n hb hx=>k b o (Yo b o e) (I.base.keep b o e n hb hx),fun b o e n hb hx=>?_,I.base.free,fun b o e hx=>?_,I.base.tups,I.base.iu,I.base.jA⟩,⟨m',hn',fun j y v' e1 e2 e3=>?_⟩,fun y c e=>?_,I.free,I.cD,fun p hp=>?_,fun b u e=>?_,by simp,I.hh⟩
 ·obtain ⟨sl,e1⟩:=I.base.slot b o e n hb hx
  exact ⟨sl,k b _ (Yo b o e) e1⟩
 ·obtain ⟨o',e1⟩:=I.base.there b o e hx
  exact ⟨o',k b _ (Yo b o e) e1⟩
 ·rw [List.getElem?_replicate] at e2
  split at e2 <;> cases e2
 ·obtain ⟨v,o,ho,hd⟩:=I.cell y c e
  exact ⟨v,o,k c o (I.Tv y c e) ho,hd⟩
 ·obtain ⟨q1,q2,q3,q4,q5⟩:=I.pin p hp
  exact ⟨k _ _ q3 q1,q2,q3,q4,q5⟩
 ·refine (I.hok b u e).stay (fun c v hc q=>k c v ?_ q) (fun _ q=>q) fun _ _ q=>q
  rintro rfl
  rcases hc with rfl | hc
  ·rw [I.free] at e; cases e
  ·rw [I.free] at hc; cases hc
theorem JR {M:Model} {A:Around} {E:Value->Shared->Prop} {env:Env} {n:Str} {pos:Pos} {c:Addr} {v:Option Value} {Q:Unit->Shared->Prop} {s:Shared} (hk:env.scope.kind = .function) (hl:env.kindOf n=some .cell) (hc:env.cells.lookup n=some c) (hv:s.heap.IsCell c v)
  (h:∀ h',h'.IsCell c none->Heap.SameBut c s.heap h'->Q () { s with heap:=h' }):wpAny M A (do bindName env n .none; unbindBehindTheSuite env n pos) Q E s:=by
 refine wpAny_bind (wpAny_bindName (wpAny_storeName_cell hk hl hc hv fun h1 v1 s1=>?_))
 unfold unbindBehindTheSuite unbindName
 refine wpAny_onRaise (wpAny_bind (wpAny_point (wpAny_bind ?_)))
 unfold deleteName
 simp only [hl]
 refine wpAny_bind (wpAny_cellOf hc (wpAny_bind (wpAny_cellGet v1 ?_)))
 simp only [Option.isSome_some,if_true]
 exact wpAny_cellSet v1 fun h2 v2 s2=>wpAny_point (h h2 v2 (s1.trans s2))
theorem JC {h':Heap} {n:Str} {c:Addr} (I:Inv X pins σ H s) (hc:X.env.cells.lookup n=some c) (hf:X.fn n=true) (hv:h'.IsCell c none) (hs:Heap.SameBut c s.heap h'):Inv X pins (List.replicate X.N.length none) H { s with heap:=h' }:=by
 have Uz:∀ b o,X.s₀.heap.get? b=some o->b≠c:=fun b o e=>Nat.ne_of_lt (Nat.lt_of_lt_of_le (Heap.lt_size e) (I.ok.cab n c hf hc))
 have k:∀ b o,b≠c->s.heap.get? b=some o->h'.get? b=some o:=fun b o hb q=>(hs.2 b hb).trans q
 obtain ⟨vc,oc,hoc,hdc⟩:=I.cell n c hc
 refine ⟨I.ok,I.os,I.bare,⟨fun b o e n hb hx=>k b o (Uz b o e) (I.base.keep b o e n hb hx),fun b o e n hb hx=>?_,I.base.free,fun b o e hx=>?_,I.base.tups,I.base.iu,I.base.jA⟩,?_,fun y c' e=>?_,I.free,I.cD,fun p hp=>?_,fun b u e=>?_,by simp,I.hh⟩
 ·obtain ⟨sl,e1⟩:=I.base.slot b o e n hb hx
  exact ⟨sl,k b _ (Uz b o e) e1⟩
 ·obtain ⟨o',e1⟩:=I.base.there b o e hx
  exact ⟨o',k b _ (Uz b o e) e1⟩
 ·obtain ⟨m,hn,_⟩:=I.loc
  refine ⟨m,hn.sameBut hs (Ne.symm (I.Tv n c hc)),fun j y v' e1 e2 e3=>?_⟩
  rw [List.getElem?_replicate] at e2
  split at e2 <;> cases e2
 ·by_cases q:c'=c
  ·subst q; exact ⟨none,hv⟩
  ·obtain ⟨v,o,ho,hd⟩:=I.cell y c' e
   exact ⟨v,o,k c' o q ho,hd⟩
 ·obtain ⟨q1,q2,q3,q4,q5⟩:=I.pin p hp
  refine ⟨k _ _ ?_ q1,q2,q3,q4,q5⟩
  intro z
  rw [z,hoc] at q1; cases q1
  exact q5 vc hdc
 ·refine (I.hok b u e).stay (fun d v hd q=>k d v ?_ q) (fun _ q=>q) fun _ _ q=>q
  rintro rfl
  have fc:=I.cD n d hc
  rcases hd with rfl | hd
  ·rw [fc] at e; cases e
  ·rw [fc] at hd; cases hd
end
noncomputable def Xb (X:Cx) (pn:List (Addr×Obj)) (ξ:Value->Shared->Prop):Cx:={ X with pn:=X.pn ++ pn,xe:=ξ }
section
variable {X:Cx} {pins pn:List (Addr×Obj)} {σ:L2.St} {H:Hp} {s:Shared} {ξ:Value->Shared->Prop}
theorem abv (ok:X.Ok):(Xb X pn ξ).Ok:=⟨ok.mod,ok.kind,ok.glob,ok.blt,ok.above,ok.inj,ok.has,ok.cab,ok.hd,ok.frames,ok.stk,ok.exf,ok.bs,ok.J5,ok.BJ,ok.Gd,ok.oF,ok.Qf⟩
theorem WW (ok:(Xb X pn ξ).Ok):X.Ok:=⟨ok.mod,ok.kind,ok.glob,ok.blt,ok.above,ok.inj,ok.has,ok.cab,ok.hd,ok.frames,ok.stk,ok.exf,ok.bs,ok.J5,ok.BJ,ok.Gd,ok.oF,ok.Qf⟩
theorem ZP (I:Inv X pn σ H s):Inv (Xb X pn ξ) [] σ H s :=
 ⟨abv I.ok,I.os,I.bare,I.base,I.loc,I.cell,I.free,I.cD,fun p hp=>I.pin p (by simpa [Xb] using hp),I.hok,I.len,I.hh⟩
theorem pU (I:Inv (Xb X pn ξ) pins σ H s):Inv X pn σ H s :=
 ⟨WW I.ok,I.os,I.bare,I.base,I.loc,I.cell,I.free,I.cD,fun p hp=>I.pin p (List.mem_append_left _ hp),I.hok,I.len,I.hh⟩
theorem V4 {D:Ends} {f:Flow} (h:SP (Xb X pn ξ) pins D f s):SP X pn D f s:=by
 cases f with
 | next=>obtain ⟨σ',H',I,q⟩:=h; exact ⟨σ',H',pU I,q⟩
 | brk=>obtain ⟨σ',H',I,q⟩:=h; exact ⟨σ',H',pU I,q⟩
 | cont=>obtain ⟨σ',H',I,q⟩:=h; exact ⟨σ',H',pU I,q⟩
 | ret u=>obtain ⟨v,σ',H',I,r,q⟩:=h; exact ⟨v,σ',H',pU I,r,q⟩
end
section
variable {X:Cx} {i:Nat} {n P:Str} {np hpos pos:Pos} {b₀:Stmt} {suite body:List Stmt} {CP:Addr} {tb:(L2.St->XK)->TS} {th:TS}
noncomputable def takes (X:Cx) (CP:Addr) (i:Nat) (th:TS) (D:Ends):L2.St->XK:=fun σ' cls dx H'=>∃ C,cls = .ref C/\exmOne X.K (.ref C) (.ref CP)=some true /\
 ∀ ea oe u,H' ea=none->oe.cls = .ref C->PySem.W.notCls oe=true->oe.dict=dx->th { nx:=fun _ _=>False,rt:=D.rt } (σ'.set i (some (.ref ea))) (upd H' ea (.bK oe u))
theorem Wg (hc:X.calm=true) (ex:X.ex=[]) (stk:X.stack=X.env :: X.outer) (fr:X.env.frame=some X.env.locals) (hN:X.N.Nodup) (hi:X.N[i]? = some n) (hl:Loc X.env.scope n) (hf:X.fn n=true∨X.env.scope.names.lookup n=some .local)
  (hg:Gl X P) (hm:X.mg P=some (.ref CP)) (hd:(P == ("__debug__" : Str))=false)
  (hb:∀ (pn:List (Addr×Obj)) (ξ:Value->Shared->Prop) (EX:L2.St->XK),Meets (Xb X pn ξ) EX->PassesOwn (model X.prog X.w) X.A X.env ξ->vV (Xb X pn ξ) body (tb EX))
  (hh:∀ ea,vV (Xh X ea) (b₀ :: suite) th) :
  PS X (.Try body [.ExceptHandler (some (.Name P np)) (some n) (b₀ :: suite) hpos] [] [] pos) (fun D σ H=>tb (takes X CP i th D) D σ H):=by
 intro pins s σ H D I h
 refine wpAny_Try_except ?_
 refine wpAny_mono (hb pins (fun e s₁=>wpAny (model X.prog X.w) X.A (noteFrame e X.env) (fun _ s₂=>wpAny (model X.prog X.w) X.A (setFlight e none) (fun _ s₃ =>
   wpAny (model X.prog X.w) X.A (handleBy e X.env [.ExceptHandler (some (.Name P np)) (some n) (b₀ :: suite) hpos]) (SP X pins D) X.xe s₃) X.xe s₂) X.xe s₁)
  (takes X CP i th D) ?_ PassesOwn.looking [] s σ H D (ZP I) h) (fun f s1 q=>?_) fun _ _ q=>q
 ·intro acz σ1 H1 s1 E' e s' I1 hE hx
  obtain ⟨ea,ob,vs,B,H',rfl,ho,hgn,F,q⟩:=hx
  have I0:Inv X pins σ1 H1 s1:=pU I1
  have I':Inv X pins σ1 H' s':=Hw I0 ho hgn F
  obtain ⟨C,hcl,hx1,hx2⟩:=hE _ _ H' q
  have fl:qt B (X.env :: X.outer) ea ob vs .none s'.heap:=by have:=F.fl; rw [show (Xb X pins _).stack=X.env :: X.outer from stk] at this; exact this
  have hfr:X.A.frames=some (X.env :: X.outer):=by rw [I.ok.frames,stk]
  have F0:s'.heap.FunFrames B X.stack:=F.fl.Gb
  have step:∀ (h':Heap) (tk:Nat),B.StaysIn h'->s'.heap.UpToSlots h'->Inv X pins σ1 H' { s' with heap:=h',toks:=tk }:=fun h' tk k1 k2=>S5 ex stk fr I0 I' F.old F.Bb fl.stay k1 k2 F0
  have hea:∀ o,B.get? ea≠some o:=fun o z=>by rw [fl.new] at z; cases z
  have e1:H' ea=none:=by
   cases qq:H' ea with
   | none=>rfl
   | some u=>obtain ⟨o,z⟩:=F.Bb ea u qq; exact absurd z (hea o)
  refine RP hfr fr fl fun h4 fl4 up4=>?_
  refine Fz (s:={ s' with heap:=h4 }) fl4 fun h5 fl5 up5=>?_
  have I5:=step h5 s'.toks fl5.stay (up4.trans up5)
  obtain ⟨T5,Xr⟩:=fl5.tr.there
  have nfr:∀ (h':Heap) (o:Obj),h'.get? ea=some o->(∃ vs,o.data = .fields vs)->h'.FunFrames B (X.env :: X.outer)->ea≠X.env.locals/\ea ∉ X.fs:=fun h' o z ⟨vs,zd⟩ FF=>by
   have hn:ea ∉ frs (X.env :: X.outer):=fun hm=>by
    obtain ⟨_,o',ho',nf⟩:=FF.mem hm
    rw [z] at ho'; cases ho'
    exact nf vs zd
   unfold frs at hn
   rw [List.filterMap_cons,fr] at hn
   exact ⟨fun y=>hn (by rw [y]; exact List.mem_cons_self),fun y=>hn (List.mem_cons_of_mem _ y)⟩
  have S8:frs X.stack=X.env.locals :: X.fs:=by rw [stk]; unfold frs; rw [List.filterMap_cons,fr]; rfl
  obtain ⟨m1,m2⟩:=nfr h5 _ Xr ⟨_,rfl⟩ fl5.Gb
  have nst:ea ∉ frs X.stack:=by
   rw [S8]
   intro z
   rcases List.mem_cons.mp z with z | z
   ·exact m1 z
   ·exact m2 z
  have new1:∀ o,s1.heap.get? ea≠some o:=fun o z=>by
   obtain ⟨o',z'⟩:=F.old ea o z nst
   exact hea o' z'
  have h00:X.s₀.heap.get? ea=none:=by
   cases qq:X.s₀.heap.get? ea with
   | none=>rfl
   | some o =>
    obtain ⟨o1,z1⟩:=I0.base.there ea o qq (by rw [ex]; simp)
    exact absurd z1 (new1 o1)
  have Bb:∀ {h:Heap} {oe:Obj} {ws:Array Value},Inv X pins σ1 H' { s' with heap:=h }->h.get? ea=some oe->oe.data = .fields ws->ws[2]? = some .none->Inv (Xh X ea) pins σ1 (upd H' ea (.bK oe (.ext fun _=>True))) { s' with heap:=h }:=fun {h oe ws} J he hd h2=>by
   refine ZM (u:=.ext fun _=>True) (Jz (φ:=fun _=>True) J e1 he h00 m1 (fun v z=>by rw [hd] at z; cases z) (fun p hp=>?_) trivial fun _ _ _ _=>trivial) (aA) hd h2
   obtain ⟨q1,_⟩:=I0.pin p hp
   rintro rfl
   exact new1 _ q1
  have I5h:=Bb I5 Xr rfl (by rw [GK]; exact F.ctx)
  refine wpAny_handleBy_cons (codeAny_handlers_test (j5 (X:=Xh X ea) I5h hg hm ?_ hd)) (by intro q; cases q)
  have LT:Looks (model X.prog X.w) h5 (typeOf (.ref ea)) (.ref C):=ExcAt.ty ⟨_,Xr,hcl⟩
  refine (exm_one I5.tu LT hx1).at ?_
  refine codeAny_handlers_suite_as ?_
  refine Fz (s:={ s' with heap:=h5 }) fl5 fun h6 fl6 up6=>?_
  have I6:=step h6 s'.toks fl6.stay ((up4.trans up5).trans up6)
  obtain ⟨T6,Z1⟩:=fl6.tr.there
  have I6h:=Bb I6 Z1 rfl (by rw [GK]; exact F.ctx)
  refine lO (X:=Xh X ea) (i:=i) (v:=.ref ea) I6h hN hi hl rfl (fun s7 I7=>?_) hf
  refine wpAny_mono (hh ea pins s7 _ _ _ I7 (hx2 ea _ _ e1 hcl rfl rfl)) (fun f s8 z=>?_) fun _ _ z=>z.elim
  cases f with
  | next=>obtain ⟨_,_,_,z⟩:=z; exact z.elim
  | brk=>obtain ⟨_,_,_,z⟩:=z; exact z.elim
  | cont=>obtain ⟨_,_,_,z⟩:=z; exact z.elim
  | ret u =>
   obtain ⟨v,σ8,H8,I8,rv,z⟩:=z
   have I8':=SX hc I.ok I8
   rcases hl with hl | hl
   ·obtain ⟨m,hn,_⟩:=I8'.loc
    refine wpAny_nameGoes (show X.env.kindOf n=some .local from hl) hn (by rw [I.ok.kind]; rfl) fun h9 m9 hn9 hs9=>?_
    exact ⟨v,_,H8,Oh I8' hn9 hs9,rv,z⟩
   ·obtain ⟨c,hc⟩:=I.ok.has n (.inl hl)
    obtain ⟨v0,hv0⟩:=I8'.cell n c hc
    have hf':X.fn n=true:=hf.resolve_right fun z=>by rw [hl] at z; cases z
    exact JR I.ok.kind (show X.env.kindOf n=some .cell from hl) hc hv0 fun h9 v9 s9=>⟨v,_,H8,JC I8' hc hf' v9 s9,rv,z⟩
 ·have q:=V4 q
  cases f with
  | next=>exact wpAny_execs_nil q
  | ret v=>exact q
  | brk=>exact q
  | cont=>exact q
end
end DW
end
section
set_option maxHeartbeats 2000000
namespace DW
open PySem PySem.W PySem.Spec PyProof.Rows L2 Builtin.ObjectAttr
noncomputable def Hy:List Value->Bool
 | .ref _ :: r=>Hy r
 | l=>l == Ph
noncomputable def Tj (K:Frag) (C:Addr):Bool:=(clsIn K C).any fun cd=>Hy cd.mro && !cd.mro.isEmpty
section
variable {prog:Program} {w:World} {A:Around} {E:Value->Shared->Prop} {s:Shared} {K:Frag} {x C:Addr} {R:Result->Shared->Prop}
end
end DW
end
section
set_option maxHeartbeats 2000000
namespace DW
open PySem PySem.W PySem.Spec PyProof.Rows L2
section
variable {prog:Program} {w:World} {A:Around} {E:Value->Shared->Prop} {h:Heap} {g:Array GenState} {d:Drawn} {t:Nat} {os:OsState}
variable {nm q:Str} {C N:Addr} {bs bm bmB:List Value} {hdct:Bool} {sn:List Str} {sub:List Value} {ab:Bool} {col:Option Bool} {dd:Option Addr} {k0 k1 k2 k3 k5:Option Value} {B newId initId:String}
end
section
variable {prog:Program} {w:World} {A:Around} {E:Value->Shared->Prop} {s:Shared} {env:Env}
variable {nm q:Str} {C N:Addr} {bs bm bmB:List Value} {hdct:Bool} {sn:List Str} {sub:List Value} {ab:Bool} {col:Option Bool} {dd:Option Addr} {k0 k1 k2 k3 k5:Option Value} {B newId initId:String}
end
end DW
end
section
set_option maxHeartbeats 2000000
namespace DW
open PySem PySem.W PySem.Spec PyProof.Rows L2
noncomputable abbrev errObj (C t:Addr) (d:Option Addr):Obj:={ cls:=.ref C,dict:=d,data:=.fields #[.ref t,.none,.none,.none,.bool false,.none] }
noncomputable def aat (a C:Addr) (d:Option Addr):HO:=.ext fun h=>∃ t,h.get? a=some (errObj C t d)
section
variable {P:Program} {w:World} {H:Hp} {h h':Heap} {a C t:Addr} {d:Option Addr} {o:HO} {fs:List (Str×V)} {mA:Str->Option Value}
noncomputable def drop (H:Hp) (a:Addr):Hp:=fun b=>if b=a then none else H b
end
structure Ub (K:Frag) (C:Addr):Prop where
 ov:Tj K C=true
 ob:mroIn K C (.type "object")=some true
 hd:hasDictIn K C=true
 sa:findIn K (.ref C) "__setattr__" = some (some (.builtin "object.__setattr__"))
section
variable {X:Cx} {pins:List (Addr×Obj)} {σ:L2.St} {H:Hp} {s:Shared} {a C dx:Addr} {fs:List (Str×V)} {f:Str} {E:Value->Shared->Prop}
theorem Ub.has (c:Ub X.K C):(clsIn X.K C).any (·.hasDict)=true:=c.hd
end
noncomputable def spI (K:Frag) (xs:List Str):Sp:=fun vs H Q E=>∃ a C ys,vs = .ref a :: ys/\ys.length=xs.length/\H a=some (aat a C none)/\Ub K C/\(∀ x∈xs,vH K C x) /\
 ∀ dx,H dx=none->dx≠a->Q .non (upd (upd H dx (DcO dx (xs.zip ys))) a (aat a C (some dx)))
noncomputable def XF (K:Frag) (C:Addr) (bmB:List Value) (newId:String) (fa:Addr):Bool:=match K.lookup C with
 | some ⟨.type "type",_,.cls cd,sl⟩=>(match cd.mro,sl.toList with
  | .ref C' :: bm,[_,_,_,_,some (.builtin n),_]=>C' == C && n == newId && !cd.hasDel && tailIn K bmB bm && nsOkIn K cd.ns && nsIn K cd.ns "__init__" == some (some (.ref fa))
  | _,_=>false)
 | _=>false
section
variable {X:Cx} {E:XK} {x:Str} {C fa:Addr} {np cpos pos:Pos} {args:List Expr} {t:TA} {k:Nat} {fd:FuncData} {sf:Str} {xs:List Str}
end
end DW
end
section
set_option maxHeartbeats 2000000
namespace DW
open PySem PySem.Spec PyProof.Rows L2
noncomputable def low (K:PySem.W.Frag) (sp:iZ):Sp:=fun vs H Q _=>∃ ds θ μ Qd,cF K H θ μ/\gH K H θ μ ds vs/\sp ds μ Qd/\Fin K H θ μ Qd Q
noncomputable def ab9 (K:PySem.W.Frag) (H:Hp) (θ:List Addr) (μ:Mem) (Xd:QX) (E:XK):Prop:=∀ (H':Hp) (θ':List Addr) (μ':Mem) (c:String) (ks:List String) (ds:List D),cF K H' θ' μ'->au H θ μ H' θ' μ'->Xd c ks ds μ'->Pz K E H' θ' μ' c ks ds
noncomputable def zA (K:PySem.W.Frag) (sp:iY):Sp:=fun vs H Q E=>∃ ds θ μ Qd Xd,cF K H θ μ/\gH K H θ μ ds vs/\sp ds μ Qd Xd/\Fin K H θ μ Qd Q/\ab9 K H θ μ Xd E
theorem Uv {X:Cx}:Passes (mW X.prog X.w) X E0:=fun _ _ _ _ _ _ _ h=>by
 obtain ⟨_,_,_,_,_,_,_,_,_,q⟩:=h
 exact q.elim
noncomputable def Yj (mg:Str->Option Value) (t:String) (v:V):Prop :=
 (∃ C,v = .ref C/\mg (Str.ofString t)=some (.ref C))∨(v = .ty t/\mg (Str.ofString t)=none/\bootBuiltins (Str.ofString t)=some (.type t)/\Str.ofString t≠"__name__")
noncomputable def jt (mg:Str->Option Value):List String->List V->Prop
 | [],[]=>True
 | t :: ts,v :: vs=>Yj mg t v/\jt mg ts vs
 | _,_=>False
noncomputable def wQ:V->Value
 | .ref a=>.ref a
 | .ty n=>.type n
 | _=>.none
noncomputable def HW (K:PySem.W.Frag) (mg:Str->Option Value) (tt:Bool) (ts:List String) (tab:List (String×Bool)):Prop:=∃ vs,jt mg ts vs/\∀ p∈tab,∃ C,PySem.W.nsIn K mainGlobals (Str.ofString p.1)=some (some (.ref C))/\jF K C /\
 (if tt=true then PySem.W.kitAny K (.ref C) (vs.map wQ)=some p.2 else ∃ v,vs=[v]/\PySem.W.kitOne K (.ref C) (wQ v)=some p.2)
noncomputable def HX (K:PySem.W.Frag) (mg:Str->Option Value) (P:String) (tab:List String):Prop:=∃ CP,mg (Str.ofString P)=some (.ref CP)/\∀ c∈tab,∃ C,PySem.W.nsIn K mainGlobals (Str.ofString c)=some (some (.ref C))/\PySem.W.exmOne K (.ref C) (.ref CP)=some true
noncomputable def HS (K:PySem.W.Frag) (mg:Str->Option Value) (c:String):Prop:=∃ C,PySem.W.nsIn K mainGlobals (Str.ofString c)=some (some (.ref C))/\mg (Str.ofString c)=some (.ref C)/\PySem.W.excIn K C Ph "ValueError.__new__" = true
noncomputable def Vj (P:Program) (w:World) (K:PySem.W.Frag) (mg:Str->Option Value) (base:Heap) (c:String) (ks:List String):Prop:=∃ (C fa:Addr) (fd:FuncData) (sf:Str),PySem.W.nsIn K mainGlobals (Str.ofString c)=some (some (.ref C))/\mg (Str.ofString c)=some (.ref C) /\
 XF K C Ph "ValueError.__new__" fa=true/\PySem.W.isFn K (.ref fa)=true/\Ub K C/\(∀ y∈ks.map (fun k=>Str.ofString k),vH K C y)/\Binds K fd (sf :: ks.map (fun k=>Str.ofString k)) []/\ks≠[]/\ks.length<=9 /\
 cQ P w K mg base (mW P w) 1 fa fd (sf :: ks.map (fun k=>Str.ofString k)) (spI K (ks.map (fun k=>Str.ofString k)))
noncomputable def P0 (K:PySem.W.Frag) (f:String) (tab:List String):Prop:=∀ c∈tab,∃ C,PySem.W.nsIn K mainGlobals (Str.ofString c)=some (some (.ref C))/\jF K C/\vH K C (Str.ofString f)/\PySem.W.hasDictIn K C=true
noncomputable def Vl (K:PySem.W.Frag) (mg:Str->Option Value) (x:Str) (ks:List (List Nat)):Prop:=∃ a,mg x=some (.ref a)/\Ve K a=true/\(Di K a).map (fun p=>p.1.cps.toList)=ks
noncomputable def Vk (P:Program) (w:World) (K:PySem.W.Frag) (mg:Str->Option Value) (base:Heap) (k:Nat) (x:Str) (ks:List (List Nat)) (sp:iY):Prop:=∃ a,mg x=some (.ref a)/\Ve K a=true/\(Di K a).map (fun p=>p.1.cps.toList)=ks /\
 ∀ ds μ Q Xq,sp ds μ Q Xq->∃ t r fa fd ps DG,ds = .str t :: r/\KTD.datumAt (⟨t.toArray⟩:Str) (Di K a)=some fa/\Binds K fd ps []/\cQ P w K mg base (mW P w) k fa fd ps (zA K DG)/\DG r μ Q Xq
noncomputable def dJ (X:Cx):Rf->iZ->Prop
 | .fn x,sp=>∃ (fa:Addr) (fd:FuncData) (ps:List Str) (k:Nat),X.mg x=some (.ref fa)/\PySem.W.keepIn X.K (.ref fa)=true/\Binds X.K fd ps []/\cQ X.prog X.w X.K X.mg X.base (mW X.prog X.w) k fa fd ps (low X.K sp)/\bU k X.A
 | .mth c m,sp=>∃ (C fa:Addr) (fd:FuncData) (ps:List Str) (k:Nat),PySem.W.nsIn X.K mainGlobals (Str.ofString c)=some (some (.ref C))/\Cls X.K C/\Meth X.K C (Str.ofString m) fa/\Binds X.K fd ps []/\cQ X.prog X.w X.K X.mg X.base (mW X.prog X.w) k fa fd ps (low X.K sp)/\bU k X.A
 | .mk c,sp=>∃ (C fa:Addr) (fd:FuncData) (ps:List Str) (k:Nat),PySem.W.nsIn X.K mainGlobals (Str.ofString c)=some (some (.ref C))/\X.mg (Str.ofString c)=some (.ref C)/\Mk X.K C fa/\Binds X.K fd ps []/\cQ X.prog X.w X.K X.mg X.base (mW X.prog X.w) k fa fd ps (low X.K sp)/\bU (k + 1) X.A
 | .fld c f,_=>∃ C:Addr,PySem.W.nsIn X.K mainGlobals (Str.ofString c)=some (some (.ref C))/\Cls X.K C/\vH X.K C (Str.ofString f)
 | .fnX x sp,_=>∃ (fa:Addr) (fd:FuncData) (ps:List Str) (k:Nat),X.mg x=some (.ref fa)/\PySem.W.keepIn X.K (.ref fa)=true/\Binds X.K fd ps []/\cQ X.prog X.w X.K X.mg X.base (mW X.prog X.w) k fa fd ps (zA X.K sp)/\bU k X.A
 | .RT c m sp,_=>∃ (C fa:Addr) (fd:FuncData) (ps:List Str) (k:Nat),PySem.W.nsIn X.K mainGlobals (Str.ofString c)=some (some (.ref C))/\Cls X.K C/\Meth X.K C (Str.ofString m) fa/\Binds X.K fd ps []/\cQ X.prog X.w X.K X.mg X.base (mW X.prog X.w) k fa fd ps (zA X.K sp)/\bU k X.A
 | .mkX c sp,_=>∃ (C fa:Addr) (fd:FuncData) (ps:List Str) (k:Nat),PySem.W.nsIn X.K mainGlobals (Str.ofString c)=some (some (.ref C))/\X.mg (Str.ofString c)=some (.ref C)/\Mk X.K C fa/\Binds X.K fd ps []/\cQ X.prog X.w X.K X.mg X.base (mW X.prog X.w) k fa fd ps (zA X.K sp)/\bU (k + 1) X.A
 | .Wa c,_=>HS X.K X.mg c
 | .lam,_=>∃ tc tP:Addr,PySem.W.tabIn X.K N6=some (tc,tP)/\X.env.code = .ref tc/\X.env.qual ++ "<lambda>" = ZD/\PySem.W.CodeHd X.base tc tP/\X.base.BuiltinsAt X.mg tP/\mainGlobals≠tP
 | .din x ks,_=>Vl X.K X.mg x ks
 | .dsp x ks sp,_=>∃ k:Nat,bU k X.A/\Vk X.prog X.w X.K X.mg X.base k x ks sp
 | .Yr x,sp=>∃ (fa:Addr) (fd:FuncData) (ps:List Str),X.mg x=some (.ref fa)/\PySem.W.keepIn X.K (.ref fa)=true/\Binds X.K fd ps []/\cQ X.prog X.w X.K X.mg X.base (mW X.prog X.w) 15 fa fd ps (low X.K sp)/\bU 15 X.A
 | .rsi c ks,_=>Vj X.prog X.w X.K X.mg X.base c ks/\bU 2 X.A
 | .Ys f tab,_=>P0 X.K f tab
 | .hdl P tab,_=>HX X.K X.mg P tab
 | .wG tt ts tab,_=>HW X.K X.mg tt ts tab
noncomputable def fV (X:Cx) (x:Str) (d:D):Prop:=∃ (u:Value) (v:V),X.mg x=some u/\RelV v u/\∀ H θ μ,Rp X.K H θ μ d v
structure CtxOk (X:Cx) (c:Ctx):Prop where
 N:X.N=c.N
 nd:c.N.Nodup
 vis:∀ x,c.vis x=true->Vis X.env.scope x
 loc:∀ x,c.loc x=true->Loc X.env.scope x/\(X.fn x=true∨X.env.scope.names.lookup x=some .local)
 isl:∀ x,isLocal c x=true->X.env.scope.names.lookup x=some .local
 kY:∀ x,c.kY x=true->Gl X x
 clo:∀ x,(c.names.lookup x=some .cell∨c.names.lookup x=some .free)->(X.env.kindOf x=some .cell∨X.env.kindOf x=some .free)
 blt:∀ x,c.bC.contains x=true->X.mg x=none
 calm:c.calm=true->X.calm=true
 room:∃ k,bU k X.A
 pas:PassesOwn (model X.prog X.w) X.A X.env X.xe
theorem jq {c:Ctx} {i:Nat} {x:Str} (h:c.at_ i x=true):c.N[i]? = some x:=by
 unfold Ctx.at_ at h
 split at h
 ·rename_i y e; rw [e,of_decide_eq_true h]
 ·cases h
theorem cj {e:Expr} {es:List Expr} {env:Env} (h:notStar e=true):starEach (e :: es) env=(false,eval e env) :: starEach es env:=by
 cases e <;> first | rfl | exact (Bool.false_ne_true h).elim
theorem iW {c:Ctx} {pos:Pos} {env:Env}:∀ {es:Es} {as:List Expr},jC c es as=true->(backTo pos (starEach as env)).any (·.1)=false
 | .nil,as,h=>by
  have:as=[]:=by simpa [jC] using h
  subst this; rfl
 | .cons e es,as,h=>by
  cases as with
  | nil=>simp [jC] at h
  | cons a as =>
   simp only [jC,Bool.and_eq_true] at h
   rw [cj h.1.2]
   show (false || (backTo pos (starEach as env)).any (·.1))=false
   rw [iW h.2]; rfl
theorem CQ {c:Ctx}:∀ {es:Es} {as:List Expr},jC c es as=true->gB es=as.length
 | .nil,as,h=>by
  have:as=[]:=by simpa [jC] using h
  subst this; rfl
 | .cons e es,as,h=>by
  cases as with
  | nil=>simp [jC] at h
  | cons a as =>
   simp only [jC,Bool.and_eq_true] at h
   simp [gB,CQ h.2]
theorem bf {x:Str} (h:cG x=false):(x == ("__debug__" : Str))=false/\(x == ("__classdict__" : Str))=false:=by
 unfold cG at h
 exact Bool.or_eq_false_iff.mp h
theorem nW {op:CmpOp} {e:Expr} (h:fj e=true):behindInMarks op e=false:=by
 cases e <;> first | rfl | exact (Bool.false_ne_true h).elim
theorem qU {e:Expr} {env:Env} (h:fj e=true):∀ v,foldedSetIterable e env v=pure v:=by
 intro v
 cases e <;> first | rfl | exact (Bool.false_ne_true h).elim
theorem uF {e:Expr} (h:dU e=true):Ae e:=by
 intro o i
 cases e <;> first | rfl | exact (Bool.false_ne_true h).elim
theorem mX {e:Expr} {t:Option Expr} {n:Nat} {env:Env} (h:cX e=true):swapsWith e t n env=pure false:=by
 cases e <;> first | rfl | exact (Bool.false_ne_true h).elim
structure Snd (X:Cx) (e:E) (a:Expr):Prop where
 pe:PE X a (LE X.K (wE e))
 pt:PT X a (LT X.K (wT e))
 pw:∀ op vs pos,a = .BoolOp op vs pos->PW X a (LT X.K (wT e))
section
variable {X:Cx}
theorem bB {a:Expr}:PT X a (LT X.K fun _ _ _=>False):=fun pins s σ H Q I h=>by obtain ⟨_,_,_,_,_,h,_⟩:=h; exact h.elim
theorem Nt {t:TE} {w:WE} {σ:L2.St} {H:Hp} {Q:Bool->Hp->Prop} (ht:∀ σ H Q,LE X.K w σ H Q->t σ H Q) (h:LT X.K (fun ρ μ Q=>w ρ μ fun r μ1=>gK r μ1 Q) σ H Q):GC t σ H Q:=by
 obtain ⟨ρ,θ,μ,Qd,s,h,f⟩:=h
 refine ht σ H _ ⟨ρ,θ,μ,_,s,h,fun r v H1 θ1 μ1 w1 g1 r1 h1=>?_⟩
 cases r with
 | bl b=>exact ⟨b,dh r1,f b H1 θ1 μ1 w1 g1 h1⟩
 | _=>exact h1.elim
theorem Ce {p q:CmpOp} {wa wb wc:WE} {σ:L2.St} {H:Hp} {Q:VK}
  (h:LE X.K (fun ρ μ Q=>wa ρ μ fun x μ1=>wb ρ μ1 fun y μ2=>cM p x y μ2 fun r μ3=>gK r μ3 fun t μ3=>if t=true then wc ρ μ3 fun z μ4=>cM q y z μ4 Q else Q (.bl false) μ3) σ H Q) :
  yI (uT X.K (cM p)) (uT X.K (cM q)) (LE X.K wa) (LE X.K wb) (LE X.K wc) σ H Q:=by
 obtain ⟨ρ,θ,μ,Qd,s,h,f⟩:=h
 refine ⟨ρ,θ,μ,_,s,h,fun x v H1 θ1 μ1 w1 g1 r1 h1=>⟨ρ,θ1,μ1,_,s.grow w1 g1,h1,fun y v2 H2 θ2 μ2 w2 g2 r2 h2=>⟨x,y,θ2,μ2,_,w2,g2.rep r1,r2,h2,fun r v3 H3 θ3 μ3 w3 g3 r3 h3=>?_⟩⟩⟩
 cases r with
 | bl b =>
  refine ⟨b,dh r3,?_⟩
  have g13:=(g1.trans g2).trans g3
  cases b with
  | true =>
   exact ⟨ρ,θ3,μ3,_,s.grow w3 g13,h3,fun z v4 H4 θ4 μ4 w4 g4 r4 h4=>⟨y,z,θ4,μ4,Qd,w4,(g3.trans g4).rep r2,r4,h4,f.mono (g13.trans g4)⟩⟩
  | false=>exact (f.mono g13).at w3 cZ h3
 | _=>exact h3.elim
theorem NT {wa wb:WE} {σ:L2.St} {H:Hp} {Q:VK} (h:LE X.K (fun ρ μ Q=>wa ρ μ fun x μ1=>gK x μ1 fun t μ2=>if t=true then wb ρ μ2 Q else Q (.bl false) μ2) σ H Q):Uo (LE X.K wa) (LE X.K wb) σ H Q:=by
 obtain ⟨ρ,θ,μ,Qd,s,h,f⟩:=h
 refine ⟨ρ,θ,μ,_,s,h,fun x v H1 θ1 μ1 w1 g1 r1 h1=>?_⟩
 cases x with
 | bl b =>
  refine ⟨b,dh r1,?_⟩
  cases b with
  | true=>exact ⟨ρ,θ1,μ1,Qd,s.grow w1 g1,h1,f.mono g1⟩
  | false=>exact (f.mono g1).at w1 cZ h1
 | _=>exact h1.elim
theorem UW {wa wb:WE} {σ:L2.St} {H:Hp} {Q:VK} (h:LE X.K (fun ρ μ Q=>wa ρ μ fun x μ1=>gK x μ1 fun t μ2=>if t=true then Q (.bl true) μ2 else wb ρ μ2 Q) σ H Q):YH (LE X.K wa) (LE X.K wb) σ H Q:=by
 obtain ⟨ρ,θ,μ,Qd,s,h,f⟩:=h
 refine ⟨ρ,θ,μ,_,s,h,fun x v H1 θ1 μ1 w1 g1 r1 h1=>?_⟩
 cases x with
 | bl b =>
  refine ⟨b,dh r1,?_⟩
  cases b with
  | false=>exact ⟨ρ,θ1,μ1,Qd,s.grow w1 g1,h1,f.mono g1⟩
  | true=>exact (f.mono g1).at w1 cZ h1
 | _=>exact h1.elim
theorem Nu {wa wb:WT} {σ:L2.St} {H:Hp} {Q:Bool->Hp->Prop} (h:LT X.K (fun ρ μ Q=>wa ρ μ fun t μ1=>if t=true then wb ρ μ1 Q else Q false μ1) σ H Q):YX (LT X.K wa) (LT X.K wb) σ H Q:=by
 obtain ⟨ρ,θ,μ,Qd,s,h,f⟩:=h
 refine ⟨ρ,θ,μ,_,s,h,fun b H1 θ1 μ1 w1 g1 h1=>?_⟩
 cases b with
 | true=>exact ⟨ρ,θ1,μ1,Qd,s.grow w1 g1,h1,fun b H2 θ2 μ2 w2 g2 q=>f b H2 θ2 μ2 w2 (g1.trans g2) q⟩
 | false=>exact f false H1 θ1 μ1 w1 g1 h1
theorem UJ {wa wb:WT} {σ:L2.St} {H:Hp} {Q:Bool->Hp->Prop} (h:LT X.K (fun ρ μ Q=>wa ρ μ fun t μ1=>if t=true then Q true μ1 else wb ρ μ1 Q) σ H Q):tOr (LT X.K wa) (LT X.K wb) σ H Q:=by
 obtain ⟨ρ,θ,μ,Qd,s,h,f⟩:=h
 refine ⟨ρ,θ,μ,_,s,h,fun b H1 θ1 μ1 w1 g1 h1=>?_⟩
 cases b with
 | false=>exact ⟨ρ,θ1,μ1,Qd,s.grow w1 g1,h1,fun b H2 θ2 μ2 w2 g2 q=>f b H2 θ2 μ2 w2 (g1.trans g2) q⟩
 | true=>exact f true H1 θ1 μ1 w1 g1 h1
theorem Oi {pins:List (Addr×Obj)} {σ:L2.St} {H:Hp} {s:Shared} {a:Addr} {kvs:List (Key×V)} (I:Inv X pins σ H s) (e:H a=some (.dK kvs)):∃ o,Inv X pins σ (upd H a (.bK o (.dK kvs))) s:=by
 have ok:aJ X.prog X.w H s.heap a (.dK kvs):=I.hok a _ e
 obtain ⟨hz,hs,vs,rel,o,es,ep,q1,q2⟩:=id ok
 refine ⟨o,?_⟩
 have ne:∀ {b:Addr} {u:HO},H b=some u->(∀ k,u≠.dK k)->b≠a:=fun {b u} h1 h2 z=>by subst z; rw [e] at h1; cases h1; exact h2 _ rfl
 have nn:∀ {b:Addr},H b=none->b≠a:=fun {b} h1 z=>by subst z; rw [e] at h1; cases h1
 refine ⟨I.ok,I.os,I.bare,⟨I.base.keep,I.base.slot,fun b ob q n hx=>?_,I.base.there,fun b xs q=>?_,fun b ob u q=>?_,fun b ps q=>?_⟩,I.loc,I.cell,?_,fun x c e=>?_,fun p hpp=>?_,fun b u e1=>?_,I.len,I.hh.mono fun b o u q=>by rw [aq (ne q (by simp))]; exact q⟩
 ·have:=I.base.free b ob q n hx
  rw [aq (nn this)]; exact this
 ·have:=I.base.tups b xs q
  rw [aq (ne this (by simp))]; exact this
 ·have:=I.base.iu b ob u q
  rw [aq (ne this (by simp))]; exact this
 ·obtain ⟨more,this⟩:=I.base.jA b ps q
  exact ⟨more,by rw [aq (ne this (by simp))]; exact this⟩
 ·rw [aq (nn I.free)]; exact I.free
 ·rw [aq (nn (I.cD x c e))]; exact I.cD x c e
 ·obtain ⟨q1,q2,q3,q4,q5⟩:=I.pin p hpp
  exact ⟨q1,by rw [aq (nn q2)]; exact q2,q3,q4,q5⟩
 ·have st:∀ {b:Addr} {u:HO},aJ X.prog X.w H s.heap b u->aJ X.prog X.w (upd H a (.bK o (.dK kvs))) s.heap b u:=fun {b u} h=>h.stay (fun _ _ _ q=>q) (fun c q=>by rw [aq (ne q (by simp))]; exact q) fun c xs q=>by rw [aq (ne q (by simp))]; exact q
  by_cases hb:b=a
  ·subst hb
   rw [aA] at e1; cases e1
   exact ⟨q1,st ok⟩
  ·rw [aq hb] at e1
   exact st (I.hok b u e1)
theorem Oe {pins:List (Addr×Obj)} {σ:L2.St} {H:Hp} {s:Shared} {a:Addr} {kvs:List (List Key×V)} {o:Obj} (I:Inv X pins σ H s) (e:H a=some (.bK o (.dT kvs))) (n1:∀ o u,X.H₀ a≠some (.bK o u)) (n2:∀ v,X.A.handled=some v->v≠.ref a):Inv X pins σ (upd H a (.dT kvs)) s:=by
 have ok:aJ X.prog X.w H s.heap a (.dT kvs):=(show aJ X.prog X.w H s.heap a (.bK o (.dT kvs)) from I.hok a _ e).2
 have ne:∀ {b:Addr} {u:HO},H b=some u->(∀ o k,u≠.bK o k)->b≠a:=fun {b u} h1 h2 z=>by subst z; rw [e] at h1; cases h1; exact h2 _ _ rfl
 have nn:∀ {b:Addr},H b=none->b≠a:=fun {b} h1 z=>by subst z; rw [e] at h1; cases h1
 refine ⟨I.ok,I.os,I.bare,⟨I.base.keep,I.base.slot,fun b ob q n hx=>?_,I.base.there,fun b xs q=>?_,fun b ob u q=>?_,fun b ps q=>?_⟩,I.loc,I.cell,?_,fun x c e=>?_,fun p hpp=>?_,fun b u e1=>?_,I.len,fun v q=>?_⟩
 ·have:=I.base.free b ob q n hx
  rw [aq (nn this)]; exact this
 ·have:=I.base.tups b xs q
  rw [aq (ne this (by simp))]; exact this
 ·have:=I.base.iu b ob u q
  rw [aq (fun z=>n1 _ _ (z ▸ q))]; exact this
 ·obtain ⟨more,this⟩:=I.base.jA b ps q
  exact ⟨more,by rw [aq (ne this (by simp))]; exact this⟩
 ·rw [aq (nn I.free)]; exact I.free
 ·rw [aq (nn (I.cD x c e))]; exact I.cD x c e
 ·obtain ⟨q1,q2,q3,q4,q5⟩:=I.pin p hpp
  exact ⟨q1,by rw [aq (nn q2)]; exact q2,q3,q4,q5⟩
 ·have st:∀ {b:Addr} {u:HO},aJ X.prog X.w H s.heap b u->aJ X.prog X.w (upd H a (.dT kvs)) s.heap b u:=fun {b u} h=>h.stay (fun _ _ _ q=>q) (fun c q=>by rw [aq (ne q (by simp))]; exact q) fun c xs q=>by rw [aq (ne q (by simp))]; exact q
  by_cases hb:b=a
  ·subst hb
   rw [aA] at e1; cases e1
   exact st ok
  ·rw [aq hb] at e1
   exact st (I.hok b u e1)
 ·obtain ⟨x,o',u',vs,h1,h2,h3⟩:=I.hh v q
  refine ⟨x,o',u',vs,h1,?_,h3⟩
  have:x≠a:=fun z=>n2 v q (by rw [h1,z])
  rw [aq this]; exact h2
theorem Cu {pins:List (Addr×Obj)} {σ:L2.St} {H:Hp} {s:Shared} {a:Addr} {kvs:List (List Key×V)} (I:Inv X pins σ H s) (e:H a=some (.dT kvs)):∃ o,Inv X pins σ (upd H a (.bK o (.dT kvs))) s:=by
 have ok:aJ X.prog X.w H s.heap a (.dT kvs):=I.hok a _ e
 obtain ⟨hz,hs,xs,rel,o,es,ep,q1,q2⟩:=id ok
 refine ⟨o,?_⟩
 have ne:∀ {b:Addr} {u:HO},H b=some u->(∀ k,u≠.dT k)->b≠a:=fun {b u} h1 h2 z=>by subst z; rw [e] at h1; cases h1; exact h2 _ rfl
 have nn:∀ {b:Addr},H b=none->b≠a:=fun {b} h1 z=>by subst z; rw [e] at h1; cases h1
 refine ⟨I.ok,I.os,I.bare,⟨I.base.keep,I.base.slot,fun b ob q n hx=>?_,I.base.there,fun b xs q=>?_,fun b ob u q=>?_,fun b ps q=>?_⟩,I.loc,I.cell,?_,fun x c e=>?_,fun p hpp=>?_,fun b u e1=>?_,I.len,I.hh.mono fun b o u q=>by rw [aq (ne q (by simp))]; exact q⟩
 ·have:=I.base.free b ob q n hx
  rw [aq (nn this)]; exact this
 ·have:=I.base.tups b xs q
  rw [aq (ne this (by simp))]; exact this
 ·have:=I.base.iu b ob u q
  rw [aq (ne this (by simp))]; exact this
 ·obtain ⟨more,this⟩:=I.base.jA b ps q
  exact ⟨more,by rw [aq (ne this (by simp))]; exact this⟩
 ·rw [aq (nn I.free)]; exact I.free
 ·rw [aq (nn (I.cD x c e))]; exact I.cD x c e
 ·obtain ⟨q1,q2,q3,q4,q5⟩:=I.pin p hpp
  exact ⟨q1,by rw [aq (nn q2)]; exact q2,q3,q4,q5⟩
 ·have st:∀ {b:Addr} {u:HO},aJ X.prog X.w H s.heap b u->aJ X.prog X.w (upd H a (.bK o (.dT kvs))) s.heap b u:=fun {b u} h=>h.stay (fun _ _ _ q=>q) (fun c q=>by rw [aq (ne q (by simp))]; exact q) fun c xs q=>by rw [aq (ne q (by simp))]; exact q
  by_cases hb:b=a
  ·subst hb
   rw [aA] at e1; cases e1
   exact ⟨q1,st ok⟩
  ·rw [aq hb] at e1
   exact st (I.hok b u e1)
theorem au.Tf {K:PySem.W.Frag} {H:Hp} {θ:List Addr} {μ:Mem} {n:Nat} {a:Addr} {c:Cell} {o:HO} (w:cF K H θ μ) (hn:μ[n]? = some c) (hc:c≠.gone) (ha:θ[n]? = some a):au H θ μ (upd H a o) θ (μ.set n .gone) where
 pre:=fun _ _ h=>h
 keep:=fun b u h k=>by
  have:b≠a:=by rintro rfl; exact k ⟨n,c,ha,hn,hc⟩
  exact ⟨by rw [aq this]; exact h,((au.bK (H:=H) (θ:=θ) (μ:=μ) (n:=n)).keep b u h k).2⟩
theorem cF.Tf {K:PySem.W.Frag} {H:Hp} {θ:List Addr} {μ:Mem} {n:Nat} {a:Addr} {c:Cell} {o:HO} (w:cF K H θ μ) (hn:μ[n]? = some c) (hc:c≠.gone) (ha:θ[n]? = some a):cF K (upd H a o) θ (μ.set n .gone) where
 len:=by simp [w.len]
 inj:=w.inj
 bnd:=fun m b h k=>by
  unfold upd at k
  split at k
  ·cases k
  ·exact w.bnd m b h k
 cell:=fun m c1 b h k=>by
  by_cases q:m=n
  ·subst q
   rw [List.getElem?_set_self (List.getElem?_eq_some_iff.mp hn).1] at h
   cases h
   trivial
  ·rw [List.getElem?_set_ne (Ne.symm q)] at h
   have hb:b≠a:=fun z=>q (w.inj m n b k (by rw [z]; exact ha))
   exact (w.cell m c1 b h k).mono (au.Tf w hn hc ha) fun u e=>by rw [aq hb]; exact e
theorem Rq {a:Expr} {wa:WE} (h:PE X a (LE X.K wa)):PE X a (LE X.K fun ρ μ Q=>wa ρ μ fun d μ1=>yh d μ1 Q):=fun pins s0 σ H Q I q=>by
 obtain ⟨ρ,θ,μ,Qd,s,hw,f⟩:=q
 refine bL (h pins s0 σ H (fun x H1=>∃ d θ1 μ1,cF X.K H1 θ1 μ1/\au H θ μ H1 θ1 μ1/\Rp X.K H1 θ1 μ1 d x/\yh d μ1 Qd) I ⟨ρ,θ,μ,_,s,hw,fun d v H1 θ1 μ1 w1 g1 r1 h1=>⟨d,θ1,μ1,w1,g1,r1,h1⟩⟩) fun vv s1 ⟨v,H1,I1,rv,d,θ1,μ1,w1,g1,r1,h1⟩=>?_
 have f1:=f.mono g1
 cases d with
 | loc n =>
  simp only [yh] at h1
  split at h1
  ·rename_i ds hn
   obtain ⟨a,rfl,ha⟩:=aO r1
   obtain ⟨xs,hx,rs⟩:=w1.list hn ha
   refine ⟨.ref a,H1,I1,rv,f1 (.lst ds) (.ref a) H1 θ1 (μ1.set n .gone) w1.bK au.bK ?_ h1⟩
   unfold Rep
   exact ⟨a,xs,rfl,hx,pY w1 ha,au.bK.reps rs⟩
  ·rename_i ks ds hn
   obtain ⟨a,rfl,ha⟩:=aO r1
   obtain ⟨kvs,hx,h2,rs⟩:=w1.cell n _ a hn ha
   obtain ⟨o,I2⟩:=Oi I1 hx
   have g2:au H1 θ1 μ1 (upd H1 a (.bK o (.dK kvs))) θ1 (μ1.set n .gone):=au.Tf w1 hn (by simp) ha
   refine ⟨.ref a,_,I2,rv,f1 (.kZ ks ds) (.ref a) _ θ1 (μ1.set n .gone) (w1.Tf hn (by simp) ha) g2 ?_ h1⟩
   unfold Rep
   exact ⟨a,o,kvs,rfl,aA,pY w1 ha,h2,g2.reps rs⟩
  ·rename_i ks ds hn
   obtain ⟨a,rfl,ha⟩:=aO r1
   obtain ⟨kvs,hx,h2,rs⟩:=w1.cell n _ a hn ha
   obtain ⟨o,I2⟩:=Cu I1 hx
   have g2:au H1 θ1 μ1 (upd H1 a (.bK o (.dT kvs))) θ1 (μ1.set n (.jG o ks ds)):=au.write hn ha (by simp) (by simp)
   refine ⟨.ref a,_,I2,rv,f1 (.loc n) (.ref a) _ θ1 (μ1.set n (.jG o ks ds)) (w1.write (c':=.jG o ks ds) hn ha (by simp) (by simp) ⟨kvs,aA,h2,g2.reps rs⟩) g2 ?_ (h1 o)⟩
   unfold Rep
   exact ⟨a,rfl,ha⟩
  ·exact ⟨v,H1,I1,rv,f1.at w1 r1 h1⟩
  ·exact h1.elim
 | _=>exact ⟨v,H1,I1,rv,f1.at w1 r1 h1⟩
theorem Ro {a:Expr} {wa:WE} {i:Nat} (h:PE X a (LE X.K wa)):PE X a (LE X.K fun ρ μ Q=>match ρ[i]? with
  | some (some (.loc n))=>(match μ[n]? with
   | some (.bW ks ds)=>∀ o,wa ρ (μ.set n (.jG o ks ds)) fun d μ1=>μ1[n]? = some (.jG o ks ds)/\Q d (μ1.set n (.bW ks ds))
   | _=>False)
  | _=>False):=fun pins s0 σ H Q I q=>by
 obtain ⟨ρ,θ,μ,Qd,s,hw,f⟩:=q
 split at hw
 ·rename_i n hi
  split at hw
  ·rename_i ks ds hn
   obtain ⟨x,hx⟩:∃ x,θ[n]? = some x:=by
    have:n < θ.length:=by rw [s.lJ.len]; exact (List.getElem?_eq_some_iff.mp hn).1
    exact ⟨_,List.getElem?_eq_getElem this⟩
   obtain ⟨kvs,h1,h2,rs⟩:=s.lJ.cell n _ x hn hx
   obtain ⟨o,I2⟩:=Cu I h1
   have n1:∀ o u,X.H₀ x≠some (.bK o u):=fun o u z=>by have:=I.base.iu x o u z; rw [h1] at this; cases this
   have n2:∀ v,X.A.handled=some v->v≠.ref x:=fun v hv z=>by
    obtain ⟨y,o',u',vs,k1,k2,_⟩:=I.hh v hv
    rw [k1] at z; cases z; rw [h1] at k2; cases k2
   have g2:au H θ μ (upd H x (.bK o (.dT kvs))) θ (μ.set n (.jG o ks ds)):=au.write hn hx (by simp) (by simp)
   have w2:cF X.K (upd H x (.bK o (.dT kvs))) θ (μ.set n (.jG o ks ds)):=s.lJ.write (c':=.jG o ks ds) hn hx (by simp) (by simp) ⟨kvs,aA,h2,g2.reps rs⟩
   refine bL (h pins s0 σ _ (fun v H1=>∃ d θ1 μ1,cF X.K H1 θ1 μ1/\au (upd H x (.bK o (.dT kvs))) θ (μ.set n (.jG o ks ds)) H1 θ1 μ1/\Rp X.K H1 θ1 μ1 d v/\μ1[n]? = some (.jG o ks ds)/\Qd d (μ1.set n (.bW ks ds))) I2 ⟨ρ,θ,_,_,s.grow w2 g2,hw o,fun d v H1 θ1 μ1 w1 g1 r1 hq=>⟨d,θ1,μ1,w1,g1,r1,hq.1,hq.2⟩⟩) fun vv s1 ⟨v,H1,I1,rv,d,θ1,μ1,w1,g1,r1,hn1,hq⟩=>?_
   have hx1:=g1.pre n x hx
   obtain ⟨kvs',h1',h2',rs'⟩:=w1.cell n _ x hn1 hx1
   have I3:=Oe I1 h1' n1 n2
   have g3:au H1 θ1 μ1 (upd H1 x (.dT kvs')) θ1 (μ1.set n (.bW ks ds)):=au.write hn1 hx1 (by simp) (by simp)
   exact ⟨v,_,I3,rv,f d v _ θ1 _ (w1.write (c':=.bW ks ds) hn1 hx1 (by simp) (by simp) ⟨kvs',aA,h2',g3.reps rs'⟩) ((g2.trans g1).trans g3) (g3.rep r1) hq⟩
  ·exact hw.elim
 ·exact hw.elim
theorem MF {x:Str} {sp:iZ} {ws:WA} {p pos:Pos} {e:Expr} {es:List Expr} (R:dJ X (.fn x) sp) (hg:Gl X x) (ha:PA X (e :: es) (LA X.K ws)) (hdb:(x == ("__debug__" : Str))=false) (hs:starEach (e :: es) X.env=(false,eval e X.env) :: starEach es X.env)
  (hpl:(backTo pos (starEach es X.env)).any (·.1)=false):PE X (.Call (.Name x p) (e :: es) [] pos) (LE X.K fun ρ μ Q=>ws ρ μ fun ds μ1=>sp ds μ1 Q):=by
 obtain ⟨fa,fd,ps,k,hm,hk,hb,F,hr⟩:=R
 refine PE.wk (Rx F hr hg hm hk hb .nil Uv ha hdb hs hpl) fun σ H Q h=>?_
 obtain ⟨ρ,θ,μ,Qd,s,h,f⟩:=h
 refine ⟨ρ,θ,μ,_,s,h,fun ds vs H1 θ1 μ1 w1 g1 r1 h1=>?_⟩
 dsimp only
 rw [List.append_nil]
 exact ⟨ds,θ1,μ1,Qd,w1,r1,h1,f.mono g1⟩
theorem Jl {x:Str} {sp:iZ} {p pos:Pos} (R:dJ X (.fn x) sp) (hg:Gl X x) (hdb:(x == ("__debug__" : Str))=false):PE X (.Call (.Name x p) [] [] pos) (LE X.K fun ρ μ Q=>sp [] μ Q):=by
 obtain ⟨fa,fd,ps,k,hm,hk,hb,F,hr⟩:=R
 refine PE.wk (MJ F hr hg hm hk hb .nil Uv hdb) fun σ H Q h=>?_
 obtain ⟨ρ,θ,μ,Qd,s,h,f⟩:=h
 exact ⟨[],θ,μ,Qd,s.lJ,aB.nil,h,f⟩
end
theorem qg {c:Ctx}:∀ {cap:List Nat} {cs:List Str},gC c cap=some cs->cs.length=cap.length/\∀ (j:Nat) (y:Str),cs[j]? = some y->∃ i,cap[j]? = some i/\c.N[i]? = some y
 | [],cs,h=>by simp only [gC,Option.some.injEq] at h; subst h; exact ⟨rfl,fun j y e=>by simp at e⟩
 | i :: is,cs,h=>by
  simp only [gC] at h
  split at h
  ·rename_i x r e1 e2
   simp only [Option.some.injEq] at h
   subst h
   obtain ⟨h1,h2⟩:=qg e2
   refine ⟨by simp [h1],fun j y e=>?_⟩
   cases j with
   | zero=>simp at e; subst e; exact ⟨i,rfl,e1⟩
   | succ j =>
    obtain ⟨i',a1,a2⟩:=h2 j y (by simpa using e)
    exact ⟨i',by simpa using a1,a2⟩
  ·cases h
theorem vh {X:Cx} {c:Ctx} {scope:Scope} {xs:List Str} {cap:List Nat} {cs:List Str} (C:CtxOk X c) (h1:gC c cap=some cs) (h:vm c scope (xs ++ cs) cs=true):nj X xs scope (xs ++ cs) cap:=by
 simp only [vm,Bool.and_eq_true,List.all_eq_true] at h
 obtain ⟨⟨⟨⟨⟨k1,k2⟩,k3⟩,k5⟩,k6⟩,k7⟩:=h
 obtain ⟨hl,hg⟩:=qg h1
 refine ⟨by simpa using k1,fun y hy hc=>?_,fun y hy hloc=>?_,of_decide_eq_true k5,fun j y e=>?_,by simp [hl],fun y hy hf=>?_⟩
 ·have:=k2 y hy
  rw [hc] at this
  simpa using this
 ·have:=k3 y hy
  rw [hloc] at this
  simpa using this
 ·have e':cs[j]? = some y:=by
   rw [List.getElem?_append_right (by lia)] at e
   simpa using e
  obtain ⟨i,a1,a2⟩:=hg j y e'
  refine ⟨i,a1,by rw [C.N]; exact a2,?_⟩
  have:=k6 y (List.mem_of_getElem? e')
  simpa using this
 ·have:=k7 y hy
  rw [hf] at this
  refine C.clo y.1 ?_
  simpa using this
theorem jU {X:Cx} {c:Ctx} {scope:Scope} {xs:List Str} {cs:List Str} (C:CtxOk X c) (h:vm c scope (xs ++ cs) cs=true) (cl:List (Str×Addr)) (Ca:Addr) (s:Shared) (H:Hp) (ex:List Addr) :
  CtxOk (jo X (xs ++ cs) scope cl Ca s H ex) (c.Qc (xs ++ cs) scope.names):=by
 simp only [vm,Bool.and_eq_true,List.all_eq_true] at h
 obtain ⟨⟨⟨⟨⟨k1,k2⟩,k3⟩,k5⟩,k6⟩,k7⟩:=h
 have cel:∀ y,scope.names.lookup y=some .cell->(relabel scope X.env).names.lookup y=some .cell:=fun y z=>pJ z
 have lk:∀ y,scope.names.lookup y=some .local->(relabel scope X.env).names.lookup y=some .local:=fun y z=>lookup_relabel_local z
 refine ⟨rfl,of_decide_eq_true k5,fun y hy=>?_,fun y hy=>?_,fun y hy=>?_,fun y hy=>?_,fun y hy=>?_,C.blt,C.calm,C.room,PassesOwn.never⟩
 ·unfold Ctx.vis at hy
  split at hy
  ·rename_i z; exact .inl (lk y z)
  ·rename_i z; exact .inr (.inl (cel y z))
  ·rename_i z
   rcases gR (env:=X.env) z with q | q
   ·exact .inr (.inr q)
   ·exact .inr (.inl q)
  ·cases hy
 ·unfold Ctx.loc at hy
  split at hy
  ·rename_i z; exact ⟨.inl (lk y z),.inr (lk y z)⟩
  ·rename_i z; exact ⟨.inr (cel y z),.inl (by show (scope.names.lookup y == some .cell)=true; rw [z]; rfl)⟩
  ·cases hy
 ·exact lk y (by simpa [isLocal] using hy)
 ·unfold Ctx.kY at hy
  split at hy
  ·rename_i z
   show (relabel scope X.env).names.lookup y=some .globalImplicit
   exact yQ z
  ·cases hy
 ·rcases hy with hy | hy
  ·exact .inl (cel y hy)
  ·exact (gR (env:=X.env) hy).symm
section
variable {X:Cx}
theorem uP {c:Ctx} (C:CtxOk X c):∀ {is:List Nat} {ts:List Expr},fu c is ts=true->Yv X ts (zP is)/\(assignEach ts X.env).length=is.length/\(assignEach ts X.env).findIdx? (·.1)=none
 | [],[],_=>⟨Ri,rfl,rfl⟩
 | [],_ :: _,h=>by simp [fu] at h
 | _ :: _,[],h=>by simp [fu] at h
 | i :: is,t :: ts,h=>by
  simp only [fu,Bool.and_eq_true] at h
  obtain ⟨h1,h2⟩:=h
  cases t with
  | Name x p =>
   simp only [Bool.and_eq_true] at h1
   obtain ⟨k1,k2,k3⟩:=uP C h2
   obtain ⟨l1,l2⟩:=C.loc x h1.2
   refine ⟨Mi (G3 (by rw [C.N]; exact C.nd) (by rw [C.N]; exact jq h1.1) l1 l2) k1 rfl,?_,?_⟩
   ·show (assignEach ts X.env).length + 1=_
    rw [k2]; rfl
   ·show List.findIdx? (fun x=>x.1) ((false,assign (.Name x p) X.env) :: assignEach ts X.env)=none
    rw [List.findIdx?_cons]
    simp [k3]
  | _=>simp at h1
theorem GZ {c:Ctx} (C:CtxOk X c) {is:List Nat} {tt:Bool} (hcm:tt=true->c.calm=true) {a:Expr} (h:W3 c is tt a=true):PG X a (LG X.K fun d r k=>cL is tt d r k):=by
 cases tt with
 | false =>
  have h:fu c is [a]=true:=h
  match is,h with
  | [i],h =>
   cases a with
   | Name x p =>
    simp only [fu,Bool.and_eq_true] at h
    obtain ⟨⟨h1,h2⟩,_⟩:=h
    obtain ⟨l1,l2⟩:=C.loc x h2
    exact Mj (by rw [C.N]; exact C.nd) (by rw [C.N]; exact jq h1) l1 l2
   | _=>exact (Bool.false_ne_true h).elim
  | [],h=>simp [fu] at h
  | _ :: _ :: _,h=>simp [fu] at h
 | true =>
  cases a with
  | Tuple ts k p =>
   obtain ⟨k1,k2,k3⟩:=uP C (show fu c is ts=true from h)
   exact Rj (C.calm (hcm rfl)) k1 k2 k3
  | _=>exact (Bool.false_ne_true h).elim
end
theorem tgn {tt:Bool} {a:Expr} {xs:List Str} (h:sH tt a=some xs):tt=false->xs.length=1:=by
 rintro rfl
 cases a <;> first | (cases h; rfl) | cases h
end DW
end
section
set_option maxHeartbeats 2000000
namespace DW
open PySem PySem.Spec PyProof.Rows L2
section
variable {X:Cx}
end
end DW
end
section
set_option maxHeartbeats 2000000
namespace DW
open PySem PySem.Spec PyProof.Rows L2
section
variable {K:PySem.W.Frag} {H:Hp} {θ:List Addr} {μ:Mem} {κ κ':Type} [DecidableEq κ] [DecidableEq κ']
theorem HB (f:κ->κ') (inj:∀ a b,f a=f b->a=b) {ks:List κ} {ds:List D} {kvs:List (κ'×V)} {k:κ} {d:D} {v:V} (h1:kvs.map (·.1)=ks.map f) (h2:gH K H θ μ ds (kvs.map (·.2))) (hd:Rp K H θ μ d v) :
  (putK kvs (f k) v).map (·.1)=(cB ks k).map f/\gH K H θ μ (dw ks ds k d) ((putK kvs (f k) v).map (·.2)):=by
 have hm:=mq (k:=k) f inj h1
 unfold putK cB dw
 by_cases c:k∈ks
 ·rw [if_pos (hm.mpr c),if_pos c,if_pos c]
  refine ⟨?_,?_⟩
  ·rw [<- h1,List.map_map]
   refine List.map_congr_left fun p _=>?_
   show (if p.1=f k then (p.1,v) else p).1=p.1
   split <;> rfl
  ·clear hm c
   induction kvs generalizing ks ds with
   | nil =>
    cases ds with
    | nil=>cases ks <;> simpa using aB.nil
    | cons _ _=>have:=h2.length; simp at this
   | cons p kvs ih =>
    cases ks with
    | nil=>simp at h1
    | cons k' ks =>
     cases ds with
     | nil=>have:=h2.length; simp at this
     | cons d' ds =>
      simp only [List.map_cons,List.cons.injEq] at h1
      rw [List.map_cons] at h2
      obtain ⟨v',r,e,r1,r2⟩:=h2.cons_inv
      cases e
      rw [List.map_cons,List.map_cons,List.zipWith_cons_cons]
      refine aB.cons ?_ (ih h1.2 r2)
      by_cases c:k'=k
      ·rw [if_pos c,if_pos (by rw [h1.1,c])]; exact hd
      ·rw [if_neg c,if_neg (fun e=>c (inj _ _ (h1.1.symm.trans e)))]; exact r1
 ·rw [if_neg (fun e=>c (hm.mp e)),if_neg c,if_neg c]
  refine ⟨by rw [List.map_append,List.map_append,h1]; rfl,?_⟩
  rw [List.map_append]
  exact h2.append (aB.one hd)
end
section
variable {K:PySem.W.Frag} {H:Hp} {θ:List Addr} {μ:Mem}
theorem G9 {t:Bool} {Qd:QD} {Q:VK} {p:Addr} (wk:cF K H θ μ) (f:Fin K H θ μ Qd Q) (h:Qd (.loc μ.length) (μ ++ [if t=true then .bW [] [] else .cH [] []])) (hp:H p=none):Q (.ref p) (upd H p (if t=true then .dT [] else .dK [])):=by
 have g:au H θ μ (upd H p (if t=true then .dT [] else .dK [])) (θ ++ [p]) (μ ++ [if t=true then Cell.bW [] [] else Cell.cH [] []]):=au.new wk hp
 refine f (.loc μ.length) (.ref p) _ (θ ++ [p]) _ (wk.new hp ?_) g ?_ h
 ·cases t with
  | true=>exact ⟨[],by rw [aA]; rfl,rfl,aB.nil⟩
  | false=>exact ⟨[],by rw [aA]; rfl,rfl,aB.nil⟩
 ·unfold Rep
  exact ⟨p,rfl,by rw [<- wk.len]; simp⟩
end
section
variable {X:Cx}
theorem Mu {t:Bool} {pos:Pos}:PE X (.Dict [] [] pos) (LE X.K fun _ μ Q=>Q (.loc μ.length) (μ ++ [if t=true then .bW [] [] else .cH [] []])):=by
 intro pins s σ H Q I h
 obtain ⟨ρ,θ,μ,Qd,sm,h,f⟩:=h
 cases t with
 | true=>exact Ms pins s σ H Q I fun p hp=>G9 (t:=true) sm.lJ f h hp
 | false=>exact Mt pins s σ H Q I fun p hp=>G9 (t:=false) sm.lJ f h hp
theorem Mw {o i:Expr} {wo wi:WE} {pos:Pos} (hu:X.A.units + 1 < cLine) (ho:PE X o (LE X.K wo)) (hi:PE X i (LE X.K wi)) (hs:Ae i):PE X (.Subscript o i pos) (LE X.K fun ρ μ Q=>wo ρ μ fun x μ1=>wi ρ μ1 fun y μ2=>rE x y μ2 Q):=by
 intro pins s σ H Q I h
 refine Ru hu ho hi hs pins s σ H Q I ?_
 obtain ⟨ρ,θ,μ,Qd,sm,h,f⟩:=h
 refine ⟨ρ,θ,μ,_,sm,h,fun x vx H1 θ1 μ1 w1 g1 r1 h1=>⟨ρ,θ1,μ1,_,sm.grow w1 g1,h1,fun y vy H2 θ2 μ2 w2 g2 r2 h2=>?_⟩⟩
 have r1':=g2.rep r1
 unfold rE at h2
 split at h2
 ·rename_i ks ds
  obtain ⟨a,o,kvs,rfl,e1,_,e2,e3⟩:=tB r1'
  split at h2
  ·rename_i k hk
   split at h2
   ·rename_i d hd
    obtain ⟨v,v1,v2⟩:=dH keyOf (fun _ _=>fO) ks ds kvs k d e2 e3 hd
    exact ⟨a,v,rfl,by rw [j6 hk r2,<- v1]; exact .inl ⟨kvs,keyOf k,.inr ⟨o,e1⟩,rfl,rfl⟩,f.mono (g1.trans g2) d v H2 θ2 μ2 w2 au.refl v2 h2⟩
   ·exact h2.elim
  ·exact h2.elim
 ·rename_i n
  obtain ⟨a,rfl,ha⟩:=aO r1'
  split at h2
  ·rename_i ks ds hn
   obtain ⟨kvs,e1,e2,e3⟩:=w2.cell n _ a hn ha
   split at h2
   ·rename_i k hk
    split at h2
    ·rename_i d hd
     obtain ⟨v,v1,v2⟩:=dH keyOf (fun _ _=>fO) ks ds kvs k d e2 e3 hd
     exact ⟨a,v,rfl,by rw [j6 hk r2,<- v1]; exact lH.k e1,f.mono (g1.trans g2) d v H2 θ2 μ2 w2 au.refl v2 h2⟩
    ·exact h2.elim
   ·exact h2.elim
  ·rename_i ks ds hn
   obtain ⟨kvs,e1,e2,e3⟩:=w2.cell n _ a hn ha
   split at h2
   ·rename_i es
    split at h2
    ·rename_i k hk
     split at h2
     ·rename_i d hd
      obtain ⟨v,v1,v2⟩:=dH (fun l:List aC=>l.map keyOf) (fun _ _=>dg) ks ds kvs k d e2 e3 hd
      obtain ⟨b,xs,rfl,hb,_,rs⟩:=bR r2
      exact ⟨a,v,rfl,by rw [<- v1]; exact lH.t e1 (by rw [hb,iR hk rs]),f.mono (g1.trans g2) d v H2 θ2 μ2 w2 au.refl v2 h2⟩
     ·exact h2.elim
    ·exact h2.elim
   ·exact h2.elim
  ·rename_i o ks ds hn
   obtain ⟨kvs,e1,e2,e3⟩:=w2.cell n _ a hn ha
   split at h2
   ·rename_i es
    split at h2
    ·rename_i k hk
     split at h2
     ·rename_i d hd
      obtain ⟨v,v1,v2⟩:=dH (fun l:List aC=>l.map keyOf) (fun _ _=>dg) ks ds kvs k d e2 e3 hd
      obtain ⟨b,xs,rfl,hb,_,rs⟩:=bR r2
      exact ⟨a,v,rfl,by rw [<- v1]; exact .inr ⟨kvs,_,b,.inr ⟨o,e1⟩,rfl,by rw [hb,iR hk rs],rfl⟩,f.mono (g1.trans g2) d v H2 θ2 μ2 w2 au.refl v2 h2⟩
     ·exact h2.elim
    ·exact h2.elim
   ·exact h2.elim
  ·exact h2.elim
 ·exact h2.elim
theorem JM {n:Nat} {x y v:D} {H:Hp} {θ:List Addr} {μ:Mem} {vx vy vv:V} {k:Mem->Prop} (w:cF X.K H θ μ) (rx:Rp X.K H θ μ x vx) (ry:Rp X.K H θ μ y vy) (rv:Rp X.K H θ μ v vv) (h:jH x y v μ k) :
  ∃ a H4 μ4,vx = .ref a/\Af H a vy vv H4/\cF X.K H4 θ μ4/\au H θ μ H4 θ μ4/\k μ4:=by
 unfold jH at h
 split at h
 ·rename_i n
  obtain ⟨a,rfl,ha⟩:=aO rx
  split at h
  ·rename_i ks ds hn
   obtain ⟨kvs,e1,e2,e3⟩:=w.cell n _ a hn ha
   split at h
   ·rename_i q hq
    have hl:kvs.length < sizeLine:=by
     have:kvs.length=ks.length:=by simpa using congrArg List.length e2
     rw [this,sizeLine_eq]; exact h.1
    have g:au H θ μ (upd H a (.dK (putK kvs (keyOf q) vv))) θ (μ.set n (.cH (cB ks q) (dw ks ds q v))):=au.write hn ha (by simp) (by simp)
    obtain ⟨p1,p2⟩:=HB (K:=X.K) (k:=q) keyOf (fun _ _=>fO) e2 (g.reps e3) (g.rep rv)
    have w4:cF X.K (upd H a (.dK (putK kvs (keyOf q) vv))) θ (μ.set n (.cH (cB ks q) (dw ks ds q v))):=w.write (c':=.cH (cB ks q) (dw ks ds q v)) hn ha (by simp) (by simp) ⟨_,aA,p1,p2⟩
    exact ⟨a,_,_,rfl,by rw [j6 hq ry]; exact Af.k e1 hl,w4,g,h.2⟩
   ·exact h.elim
  ·rename_i ks ds hn
   obtain ⟨kvs,e1,e2,e3⟩:=w.cell n _ a hn ha
   split at h
   ·rename_i es
    split at h
    ·rename_i q hq
     have hl:kvs.length < sizeLine:=by
      have:kvs.length=ks.length:=by simpa using congrArg List.length e2
      rw [this,sizeLine_eq]; exact h.1
     obtain ⟨b,xs,rfl,hb,_,rs⟩:=bR ry
     have g:au H θ μ (upd H a (.dT (putK kvs (q.map keyOf) vv))) θ (μ.set n (.bW (cB ks q) (dw ks ds q v))):=au.write hn ha (by simp) (by simp)
     obtain ⟨p1,p2⟩:=HB (K:=X.K) (k:=q) (fun l:List aC=>l.map keyOf) (fun _ _=>dg) e2 (g.reps e3) (g.rep rv)
     have w4:cF X.K (upd H a (.dT (putK kvs (q.map keyOf) vv))) θ (μ.set n (.bW (cB ks q) (dw ks ds q v))):=w.write (c':=.bW (cB ks q) (dw ks ds q v)) hn ha (by simp) (by simp) ⟨_,aA,p1,p2⟩
     exact ⟨a,_,_,rfl,Af.t e1 (by rw [hb,iR hq rs]) hl,w4,g,h.2⟩
    ·exact h.elim
   ·exact h.elim
  ·exact h.elim
 ·exact h.elim
theorem LK {EX:L2.St->XK} {o i value:Expr} {wo wi we:WE} {pos pos':Pos} (hu:X.A.units + 1 < cLine) (ho:PE X o (LE X.K wo)) (hi:PE X i (LE X.K wi)) (hv:PE X value (LE X.K we)) (hs:swapsWith value (some (.Subscript o i pos')) pos.line X.env=pure false) :
  PS X (.Assign [.Subscript o i pos'] value pos) (LS X.K EX fun Z ρ μ=>we ρ μ fun v μ1=>wo ρ μ1 fun x μ2=>wi ρ μ2 fun y μ3=>jH x y v μ3 fun μ4=>Z.nx ρ μ4):=by
 intro pins s σ H D I h
 refine Q8 hu ho hi hv hs pins s σ H D I ?_
 obtain ⟨ρ,θ,μ,Z,sm,h,f⟩:=h
 refine ⟨ρ,θ,μ,_,sm,h,fun d v H1 θ1 μ1 w1 g1 r1 h1=>⟨ρ,θ1,μ1,_,sm.grow w1 g1,h1,fun x vx H2 θ2 μ2 w2 g2 r2 h2=>⟨ρ,θ2,μ2,_,sm.grow w2 (g1.trans g2),h2,fun y vy H3 θ3 μ3 w3 g3 r3 h3=>?_⟩⟩⟩
 obtain ⟨a,H4,μ4,e,p,w4,g4,q⟩:=JM (n:=0) w3 (g3.rep r2) r3 ((g2.trans g3).rep r1) h3
 exact ⟨a,H4,e,p,f.nx σ H4 ρ θ3 μ4 (sm.grow w4 (((g1.trans g2).trans g3).trans g4)) (((g1.trans g2).trans g3).trans g4) q⟩
end
end DW
end
section
set_option maxHeartbeats 2000000
namespace DW
open PySem PySem.Spec PyProof.Rows L2
section
variable {X:Cx}
end
end DW
end
section
set_option maxHeartbeats 4000000
namespace DW
open PySem
section
variable {prog:Program} {w:World} {A:Around} {E:Value->Shared->Prop} {s:Shared}
noncomputable def PX (h:Heap) (e it:Addr) (i:Nat):Prop:=(∃ old,IsEnum h e it i old) ∨
 ∃ (a:Nat) (b:Bool) (o:Obj) (z:Value),h.get? e=some { cls:=.type "enumerate",dict:=none,data:=.fields #[rawInt (a:Int),.bool b,.ref it,rawInt (i:Int),.none,z],slots:=#[] }/\h.get? a=some o/\a≠e/\a≠it
theorem PX.kept {h h':Heap} {e it:Addr} {i:Nat} (hG:PX h e it i) (k:∀ c o,h.get? c=some o->h'.get? c=some o):PX h' e it i:=by
 rcases hG with ⟨old,q⟩ | ⟨a,b,o,z,q,qa,r⟩
 ·exact .inl ⟨old,k _ _ q⟩
 ·exact .inr ⟨a,b,o,z,k _ _ q,k _ _ qa,r⟩
end
end DW
end
section
set_option maxHeartbeats 2000000
namespace DW
open PySem PySem.Spec PyProof.Rows L2
section
variable {X:Cx}
end
end DW
end
section
set_option maxHeartbeats 2000000
namespace DW
open PySem PySem.Spec PyProof.Rows L2 PySem.SeqAt
section
variable {X:Cx}
theorem oG {κ κ':Type} [DecidableEq κ] [DecidableEq κ'] {f:κ->κ'} {K:PySem.W.Frag} {H:Hp} {θ:List Addr} {μ:Mem} {k:κ}:∀ {ks:List κ} {ds:List D} {kvs:List (κ'×V)},kvs.map (·.1)=ks.map f->gH K H θ μ ds (kvs.map (·.2))->k∈ks->aH ks ds k≠none
 | [],ds,kvs,h1,h2,hm=>by cases hm
 | k' :: ks,ds,[],h1,h2,hm=>by simp at h1
 | k' :: ks,[],kv :: kvs,h1,h2,hm=>by have:=h2.length; simp at this
 | k' :: ks,d :: ds,kv :: kvs,h1,h2,hm=>by
  simp only [List.map_cons,List.cons.injEq] at h1
  rw [List.map_cons] at h2
  obtain ⟨v',r,e,r1,r2⟩:=h2.cons_inv
  cases e
  unfold aH
  by_cases c:k'=k
  ·rw [if_pos c]; simp
  ·rw [if_neg c]
   rcases List.mem_cons.mp hm with rfl | hm
   ·exact absurd rfl c
   ·exact oG h1.2 r2 hm
theorem QJ (hu:X.A.units + 1 < cLine):Qj X "dict.get" (R4 X.K (qx "get")):=by
 intro pins s σ H x vs v us Q I rx rv h
 obtain ⟨d,e,θ,μ,Qd,wk,rd,re,hw,f⟩:=h
 simp only [qx,if_true] at hw
 unfold Qo at hw
 split at hw
 ·rename_i n
  obtain ⟨a,rfl,ha⟩:=aO rd
  cases rx
  split at hw
  ·rename_i ks ds hn
   obtain ⟨kvs,e1,e2,e3⟩:=wk.cell n _ a hn ha
   split at hw
   ·rename_i k z
    obtain ⟨y1,r,rfl,r1,r2⟩:=re.cons_inv
    obtain ⟨y2,r,rfl,r3,r4⟩:=r2.cons_inv
    cases r4.nil_inv
    cases rv with
    | cons u1 t1 =>
     cases t1 with
     | cons u2 t2 =>
      cases t2
      split at hw
      ·rename_i q hq
       have ey:=j6 hq r1
       subst ey
       refine XR hu I (lH.k e1) u1 u2 fun w' s' I' Er=>⟨_,H,I',Er,?_⟩
       cases l:aH ks ds q with
       | some dd =>
        obtain ⟨v,v1,v2⟩:=dH keyOf (fun _ _=>fO) ks ds kvs q dd e2 e3 l
        rw [l] at hw
        rw [v1]
        exact f.at wk v2 hw
       | none =>
        rw [l] at hw
        have:ju kvs (keyOf q)=none:=by
         have z:=mq (k:=q) keyOf (fun _ _=>fO) e2
         rw [jK] at z
         cases hv:ju kvs (keyOf q) with
         | none=>rfl
         | some v =>
          rw [hv] at z
          have hm:=z.mp rfl
          exact absurd l (oG e2 e3 hm)
        rw [this]
        exact f.at wk r3 hw
      ·exact hw.elim
   ·exact hw.elim
  ·rename_i ks ds hn
   obtain ⟨kvs,e1,e2,e3⟩:=wk.cell n _ a hn ha
   split at hw
   ·rename_i k
    obtain ⟨y1,r,rfl,r1,r2⟩:=re.cons_inv
    cases r2.nil_inv
    obtain ⟨u1,rfl,ru⟩:=rv.one
    split at hw
    ·rename_i q hq
     obtain ⟨b,xs,rfl,hb,_,rs⟩:=bR r1
     rw [iR hq rs] at hb
     refine XS hu I (lH.t e1 hb) ru fun w' s' I' Er=>⟨_,H,I',Er,?_⟩
     cases l:aH ks ds q with
     | some dd =>
      obtain ⟨v,v1,v2⟩:=dH (fun l:List aC=>l.map keyOf) (fun _ _=>dg) ks ds kvs q dd e2 e3 l
      rw [l] at hw
      rw [v1]
      exact f.at wk v2 hw
     | none =>
      rw [l] at hw
      have:ju kvs (q.map keyOf)=none:=by
       have z:=mq (k:=q) (fun l:List aC=>l.map keyOf) (fun _ _=>dg) e2
       rw [jK] at z
       cases hv:ju kvs (q.map keyOf) with
       | none=>rfl
       | some v =>
        rw [hv] at z
        exact absurd l (oG e2 e3 (z.mp rfl))
      rw [this]
      exact f.at wk ur hw
    ·exact hw.elim
   ·exact hw.elim
  ·exact hw.elim
 ·exact hw.elim
theorem Iz:Qj X "dict.clear" (R4 X.K (qx "clear")):=by
 intro pins s σ H x vs v us Q I rx rv h
 obtain ⟨d,e,θ,μ,Qd,wk,rd,re,hw,f⟩:=h
 simp only [qx,if_true,String.reduceEq,if_false] at hw
 unfold Vq at hw
 split at hw
 ·rename_i n
  obtain ⟨a,rfl,ha⟩:=aO rd
  cases rx
  split at hw
  ·rename_i ks ds hn
   obtain ⟨kvs,e1,e2,e3⟩:=wk.cell n _ a hn ha
   obtain ⟨rfl,hw⟩:=hw
   cases re.nil_inv
   cases rv
   refine O4 I e1 fun s' I'=>⟨.non,_,I',rfl,?_⟩
   have g:au H θ μ (upd H a (.dT [])) θ (μ.set n (.bW [] [])):=au.write hn ha (by simp) (by simp)
   exact f .non .non _ θ _ (wk.write (c':=.bW [] []) hn ha (by simp) (by simp) ⟨[],aA,rfl,aB.nil⟩) g ur hw
  ·exact hw.elim
 ·exact hw.elim
theorem Ho {K:PySem.W.Frag} {H:Hp} {θ:List Addr} {μ:Mem} {d:D} {v:V} (wk:cF K H θ μ) (r:Rp K H θ μ d v) (h:Jy μ d=true):tyV K "dict" v H:=by
 cases d with
 | loc n =>
  obtain ⟨a,rfl,ha⟩:=aO r
  simp only [Jy] at h
  split at h
  ·rename_i ks ds hn
   obtain ⟨kvs,e1,_⟩:=wk.cell n _ a hn ha
   exact .inr (.inr (.inl ⟨rfl,.inl ⟨kvs,.inl e1⟩⟩))
  ·rename_i ks ds hn
   obtain ⟨kvs,e1,_⟩:=wk.cell n _ a hn ha
   exact .inr (.inr (.inl ⟨rfl,.inr ⟨kvs,.inl e1⟩⟩))
  ·cases h
 | _=>cases h
theorem W9 {m:String} (hm:m = "get"∨m = "pop"∨m = "clear") {wo:WE} {ws:WA} {σ:L2.St} {H:Hp} {Q:VK} (h:LE X.K (fun ρ μ Q=>wo ρ μ fun x μ1=>zG m μ1 x=true/\ws ρ μ1 fun ds μ2=>qx m x ds μ2 Q) σ H Q):tBM X.K "dict" (R4 X.K (qx m)) (LE X.K wo) (LA X.K ws) σ H Q:=by
 obtain ⟨ρ,θ,μ,Qd,s,h,f⟩:=h
 refine ⟨ρ,θ,μ,_,s,h,fun x v H1 θ1 μ1 w1 g1 r1 h1=>⟨Ho w1 r1 (by have:=h1.1; rw [zG,if_pos hm] at this; exact this),ρ,θ1,μ1,_,s.grow w1 g1,h1.2,fun ds vs H2 θ2 μ2 w2 g2 r2 h2=>?_⟩⟩
 exact ⟨x,ds,θ2,μ2,Qd,w2,g2.rep r1,r2,h2,f.mono (g1.trans g2)⟩
theorem R9 {wo:WE} {σ:L2.St} {H:Hp} {Q:VK} (h:LE X.K (fun ρ μ Q=>wo ρ μ fun x μ1=>zG "clear" μ1 x=true/\qx "clear" x [] μ1 Q) σ H Q):YW X.K "dict" (R4 X.K (qx "clear")) (LE X.K wo) σ H Q:=by
 obtain ⟨ρ,θ,μ,Qd,s,h,f⟩:=h
 exact ⟨ρ,θ,μ,_,s,h,fun x v H1 θ1 μ1 w1 g1 r1 h1=>⟨Ho w1 r1 (by have:=h1.1; rw [zG,if_pos (by simp)] at this; exact this),x,[],θ1,μ1,Qd,w1,r1,aB.nil,h1.2,f.mono g1⟩⟩
end
end DW
end
section
set_option maxHeartbeats 2000000
namespace DW
open PySem PySem.Spec PyProof.Rows L2 PySem.SeqAt PySem.Builtin PySem.Builtin.Str
section
variable {X:Cx}
end
end DW
end
section
set_option maxHeartbeats 2000000
namespace DW
section
open PySem PySem.SeqAt
open AutoSeq1 (wpAny_loadPart')
open MeetsSeq MeetsSeq2 MeetsSeq3 SeqRoads2
end
open PySem PySem.Spec PyProof.Rows L2 PySem.SeqAt
section
variable {X:Cx}
end
end DW
end
section
set_option maxHeartbeats 4000000
namespace DW
open PySem PySem.Spec PyProof.Rows L2 PySem.SeqAt
open PySem.AutoSeq1 (wpAny_loadPart')
theorem IsItem.keep {h h':Heap} {v:Value} {x:Itm} (k:∀ b o,h.get? b=some o->h'.get? b=some o) (i:IsItem h v x):IsItem h' v x:=by
 obtain ⟨p,o,t,u,n,e,g,r⟩:=i
 exact ⟨p,o,t,u,n,e,k _ _ g,r⟩
section
variable {prog:Program} {w:World} {A:Around} {E:Value->Shared->Prop}
end
section
variable {X:Cx}
end
end DW
end
section
set_option maxHeartbeats 2000000
namespace DW
open PySem PySem.Spec PyProof.Rows L2
section
variable {X:Cx}
theorem Wv {k v:Expr} {pos:Pos} {wa wb:WE} (hk:PE X k (LE X.K wa)) (hv:PE X v (LE X.K wb)):PE X (.Dict [some k] [v] pos)
   (LE X.K fun ρ μ Q=>wa ρ (μ ++ [.cH [] []]) fun x μ1=>wb ρ μ1 fun y μ2=>Ko μ.length x y μ2 Q):=by
 refine PE.wk (Rr (Bs hk hv GX) rfl rfl (by simp) (by simp)) fun σ H Q q=>?_
 obtain ⟨ρ,θ,μ,Qd,sm,q,f⟩:=q
 intro p hp
 have wk:=sm.lJ
 have g0:au H θ μ (upd H p (.dK [])) (θ ++ [p]) (μ ++ [Cell.cH [] []]):=au.new wk hp
 have w0:cF X.K (upd H p (.dK [])) (θ ++ [p]) (μ ++ [Cell.cH [] []]):=wk.new hp ⟨[],by rw [aA],rfl,aB.nil⟩
 have hth:(θ ++ [p])[μ.length]? = some p:=by rw [<- wk.len]; simp
 have s0:=sm.grow w0 g0
 refine ⟨ρ,θ ++ [p],μ ++ [.cH [] []],_,s0,q,fun d1 v1 H1 θ1 μ1 w1 g1 r1 h1=>?_⟩
 refine ⟨ρ,θ1,μ1,_,s0.grow w1 g1,h1,fun d2 v2 H2 θ2 μ2 w2 g2 r2 h2=>?_⟩
 unfold Ko at h2
 split at h2
 ·rename_i kk hkk
  obtain ⟨hc,h3⟩:=h2
  have Z8:=g1.trans g2
  have ha:θ2[μ.length]? = some p:=Z8.pre _ _ hth
  obtain ⟨kvs,hH,hk',hr⟩:=w2.cell _ _ p hc ha
  have hk0:kvs=[]:=by simpa using hk'
  subst hk0
  have ey:=j6 hkk (g2.rep r1)
  subst ey
  refine ⟨hH,[(keyOf kk,v2)],rfl,by simp,?_⟩
  have em:oh [] [(keyOf kk,v2)]=[(keyOf kk,v2)]:=by simp [oh,putK]
  rw [em]
  have gw:au H2 θ2 μ2 (upd H2 p (.dK [(keyOf kk,v2)])) θ2 (μ2.set μ.length (.cH [kk] [d2])):=au.write hc ha (by simp) (by simp)
  refine f (.loc μ.length) (.ref p) _ θ2 _ (w2.write (c':=.cH [kk] [d2]) hc ha (by simp) (by simp) ⟨_,aA,rfl,aB.one (gw.rep r2)⟩) ((g0.trans Z8).trans gw) ?_ h3
  unfold Rep
  exact ⟨p,rfl,ha⟩
 ·exact h2.elim
theorem Rt {k v:Expr} {pos:Pos} {tk tv:TE} (hu:X.A.units + 1 < cLine) (hk:PE X k tk) (hv:PE X v tv):PE X (.Dict [some k] [v] pos)
  (fun σ H Q=>∀ p,H p=none->tk σ (upd H p (.dT [])) fun x H1=>tv σ H1 fun y H2=>H2 p=some (.dT [])/\∃ b ks,x = .ref b/\H2 b=some (.tup (ks.map kV))/\Q (.ref p) (upd H2 p (.dT [(ks,y)]))):=by
 intro pins s σ H Q I q
 have hn:=I.hok.fresh (Nat.le_refl s.heap.objs.size)
 have I1:=I.laid (a:=s.heap.objs.size) (o:=.dT []) (h':=s.heap.push { cls:=.type "dict",data:=.dict #[] }) (t':=s.toks) (fun _ _ q=>Heap.get?_push_of_some _ q) (Nat.le_refl _) (CW s.heap I.big)
 have pp:PPs X pos [some k] [v] [(tk,tv)]:=Bs hk hv GX
 refine wpAny_Dict_any rfl rfl (by simp) (by simp) (bL (pp pins _ σ _ (fun ps H2=>∃ x y,ps=[(x,y)]/\H2 s.heap.objs.size=some (.dT [])/\∃ b ks,x = .ref b/\H2 b=some (.tup (ks.map kV))/\Q (.ref s.heap.objs.size) (upd H2 s.heap.objs.size (.dT [(ks,y)]))) I1 ?_) fun ws s2 ⟨ps,H2,I2,rel,x,y,ep,e,b,ks,ex,eb,q2⟩=>?_)
 ·have q0:=q _ hn
  have mono:yH [(tk,tv)] σ (upd H s.heap.objs.size (.dT [])) (fun ps H2=>∃ x y,ps=[(x,y)]/\H2 s.heap.objs.size=some (.dT [])/\∃ b ks,x = .ref b/\H2 b=some (.tup (ks.map kV))/\Q (.ref s.heap.objs.size) (upd H2 s.heap.objs.size (.dT [(ks,y)])))=(tk σ (upd H s.heap.objs.size (.dT [])) fun x H1=>tv σ H1 fun y H2=>∃ x' y',[(x,y)]=[(x',y')]/\H2 s.heap.objs.size=some (.dT [])/\∃ b ks,x' = .ref b/\H2 b=some (.tup (ks.map kV))/\Q (.ref s.heap.objs.size) (upd H2 s.heap.objs.size (.dT [(ks,y')]))):=rfl
  rw [mono]
  have e:(fun (x:V) (H1:Hp)=>tv σ H1 fun y H2=>∃ x' y',[(x,y)]=[(x',y')]/\H2 s.heap.objs.size=some (.dT [])/\∃ b ks,x' = .ref b/\H2 b=some (.tup (ks.map kV))/\Q (.ref s.heap.objs.size) (upd H2 s.heap.objs.size (.dT [(ks,y')])))=fun x H1=>tv σ H1 fun y H2=>H2 s.heap.objs.size=some (.dT [])/\∃ b ks,x = .ref b/\H2 b=some (.tup (ks.map kV))/\Q (.ref s.heap.objs.size) (upd H2 s.heap.objs.size (.dT [(ks,y)])):=by
   funext x H1
   congr 1
   funext y H2
   apply propext
   constructor
   ·rintro ⟨x',y',h1,h2⟩; cases h1; exact h2
   ·intro h2; exact ⟨x,y,rfl,h2⟩
  rw [e]
  exact q0
 ·subst ep ex
  obtain ⟨⟨wa,wb⟩,rfl,rx,ry⟩:∃ wv:Value×Value,ws=[wv]/\RelV (.ref b) wv.1/\RelV y wv.2:=by
   cases rel with
   | cons h t=>cases t; exact ⟨_,rfl,h.1,h.2⟩
  replace rx:wa=Value.ref b:=rx
  subst rx
  replace ry:RelV y wb:=ry
  unfold storeAll
  rw [List.forIn_cons]
  obtain ⟨z,hd,xs,QZ,dd⟩:=CV I2.hok e
  cases QZ
  refine wpAny_bind (wpAny_bind (wpAny_dictSet_heap (hsz:=by simp) (knd:=tupleKind (aX X.prog X.w)) (show X.A.units < cLine by lia) (mz I2.hok eb) dd fun h' hm' hs=>wpAny_pure ?_))
  dsimp only
  rw [List.forIn_nil]
  obtain ⟨o2,es,ep2,h1,h2,h3,h4,_,h5⟩:=hm'
  refine wpAny_pure ⟨.ref s.heap.objs.size,_,qe (ob:=.dT [(ks,y)]) I2 (by rw [e]; exact True.intro) hs ⟨o2,h1⟩ ⟨?_,hd,[(ks,b,wb)],.cons ⟨rfl,?_,ry⟩ .nil,o2,es,ep2,h1,h2,h3,h4,h5⟩,rfl,q2⟩
  ·rw [sizeLine_eq]; simp
  ·rw [aq (Uy eb e (fun z=>nomatch z))]; exact eb
theorem Wu {k v:Expr} {pos:Pos} {wa wb:WE} (hu:X.A.units + 1 < cLine) (hk:PE X k (LE X.K wa)) (hv:PE X v (LE X.K wb)):PE X (.Dict [some k] [v] pos)
   (LE X.K fun ρ μ Q=>wa ρ (μ ++ [.bW [] []]) fun x μ1=>wb ρ μ1 fun y μ2=>Vp μ.length x y μ2 Q):=by
 refine PE.wk (Rt hu hk hv) fun σ H Q q=>?_
 obtain ⟨ρ,θ,μ,Qd,sm,q,f⟩:=q
 intro p hp
 have wk:=sm.lJ
 have g0:au H θ μ (upd H p (.dT [])) (θ ++ [p]) (μ ++ [Cell.bW [] []]):=au.new wk hp
 have w0:cF X.K (upd H p (.dT [])) (θ ++ [p]) (μ ++ [Cell.bW [] []]):=wk.new hp ⟨[],by rw [aA],rfl,aB.nil⟩
 have hth:(θ ++ [p])[μ.length]? = some p:=by rw [<- wk.len]; simp
 have s0:=sm.grow w0 g0
 refine ⟨ρ,θ ++ [p],μ ++ [.bW [] []],_,s0,q,fun d1 v1 H1 θ1 μ1 w1 g1 r1 h1=>?_⟩
 refine ⟨ρ,θ1,μ1,_,s0.grow w1 g1,h1,fun d2 v2 H2 θ2 μ2 w2 g2 r2 h2=>?_⟩
 unfold Vp at h2
 split at h2
 ·rename_i ds
  split at h2
  ·rename_i kk hkk
   obtain ⟨hc,h3⟩:=h2
   have Z8:=g1.trans g2
   have ha:θ2[μ.length]? = some p:=Z8.pre _ _ hth
   obtain ⟨kvs,hH,hk',hr⟩:=w2.cell _ _ p hc ha
   have hk0:kvs=[]:=by simpa using hk'
   subst hk0
   obtain ⟨b,xs,rfl,hb,_,rs⟩:=bR (g2.rep r1)
   rw [iR hkk rs] at hb
   refine ⟨hH,b,kk.map keyOf,rfl,hb,?_⟩
   have gw:au H2 θ2 μ2 (upd H2 p (.dT [(kk.map keyOf,v2)])) θ2 (μ2.set μ.length (.bW [kk] [d2])):=au.write hc ha (by simp) (by simp)
   refine f (.loc μ.length) (.ref p) _ θ2 _ (w2.write (c':=.bW [kk] [d2]) hc ha (by simp) (by simp) ⟨_,aA,rfl,aB.one (gw.rep r2)⟩) ((g0.trans Z8).trans gw) ?_ h3
   unfold Rep
   exact ⟨p,rfl,ha⟩
  ·exact h2.elim
 ·exact h2.elim
end
end DW
end
section
namespace DW
open PySem PySem.Spec PyProof.Rows L2
section
variable {X:Cx}
end
end DW
end
section
namespace DW
open PySem PySem.Spec PyProof.Rows L2
section
variable {X:Cx}
theorem GF (a b:Str):(a ++ b:Str)=⟨(a.cps.toList ++ b.cps.toList).toArray⟩:=by
 show Str.mk (a.cps ++ b.cps)=_
 simp
noncomputable def PJ (X:Cx) (σ:L2.St) (H:Hp) (pins:List (Addr×Obj)) (l:List Nat) (rest:List (Sem Value)) (Q:List Nat->Prop):Prop:=∀ (s:Shared) (R:Value->Shared->Prop),Inv X pins σ H s->(∀ r t s',Q r->r.length<=sizeLine->Inv X pins σ H s'->R (.str ⟨r.toArray⟩ t) s')->wpAny (model X.prog X.w) X.A (joinParts ⟨l.toArray⟩ rest) R X.xe s
variable {σ:L2.St} {H:Hp} {pins:List (Addr×Obj)} {l:List Nat} {rest:List (Sem Value)} {Q:List Nat->Prop}
theorem Mf (h:l.length<=10000) (q:Q l):PJ X σ H pins l [] Q:=fun s R I k=>joinParts_nil (k l _ _ q (by rw [sizeLine_eq]; lia) (I.tok _)) (by show l.toArray.size<=_; rw [sizeLine_eq]; simp; lia)
theorem yS {s1:Str} {j1:Nat} {p1:Pos} (h:(l ++ s1.cps.toList).length<=10000) (k:PJ X σ H pins (l ++ s1.cps.toList) rest Q):PJ X σ H pins l (eval (.Constant (.str s1) j1 p1) X.env :: rest) Q:=fun s R I kk=>by
 refine joinParts_cons (wpAny_mono (Ez (j:=j1) (pos:=p1) pins s σ H (fun x H1=>x = .str s1/\H1=H) I ⟨rfl,rfl⟩) (fun u1 t1 hu1=>?_) fun _ _ e=>e)
 obtain ⟨x,H1,I1,rx,rfl,rfl⟩:=hu1
 obtain ⟨t,rfl⟩:=rx
 have e:((⟨l.toArray⟩:Str) ++ s1:Str)=⟨(l ++ s1.cps.toList).toArray⟩:=by rw [GF]
 show _<=_/\wpAny _ _ (joinParts (_ ++ s1) rest) _ _ _
 rw [e]
 exact ⟨by show (l ++ s1.cps.toList).toArray.size<=_; rw [sizeLine_eq]; simp at h ⊢; lia,k _ R I1 kk⟩
theorem Ey {v:Expr} {i:Int} {p2:Pos} (hv:PE X v (tC (.int i))) (h1:i.natAbs.log2 < 1920) (h:(l ++ iy i).length<=10000) (k:PJ X σ H pins (l ++ iy i) rest Q):PJ X σ H pins l (eval (.FormattedValue v (-1) none p2) X.env :: rest) Q:=fun s R I kk=>by
 refine joinParts_cons (FormattedValue_plain (wpAny_mono (hv pins s σ H (fun x H1=>x = .int i/\H1=H) I ⟨rfl,rfl⟩) (fun u2 t2 hu2=>?_) fun _ _ e=>e))
 obtain ⟨x,H1,I1,rx,rfl,rfl⟩:=hu2
 obtain ⟨t,rfl⟩:=rx
 refine formatField_int_small h1 ?_
 have e:((⟨l.toArray⟩:Str) ++ Str.ofString (toString i):Str)=⟨(l ++ iy i).toArray⟩:=by rw [GF]; rfl
 show _<=_/\wpAny _ _ (joinParts (_ ++ Str.ofString (toString i)) rest) _ _ _
 rw [e]
 exact ⟨by show (l ++ iy i).toArray.size<=_; rw [sizeLine_eq]; simp at h ⊢; lia,k _ R (I1.tok _) kk⟩
theorem Wt {pre mid:List Nat} {s1 s2:Str} {j1 j2:Nat} {p1 p2 p3 pos:Pos} {v:Expr} {i:Int} (e1:s1.cps.toList=pre) (e2:s2.cps.toList=mid) (hv:PE X v (tC (.int i))) :
  PE X (.JoinedStr [.Constant (.str s1) j1 p1,.FormattedValue v (-1) none p2,.Constant (.str s2) j2 p3] pos) (LE X.K fun _ μ Q=>(i.natAbs.log2 < 1920/\(pre ++ iy i ++ mid).length<=10000)/\Q (.str (pre ++ iy i ++ mid)) μ):=by
 intro pins s σ H Q I h
 obtain ⟨ρ,θ,μ,Qd,sm,⟨⟨h1,h3⟩,h⟩,f⟩:=h
 subst e1 e2
 simp only [List.length_append] at h3
 have key:PJ X σ H pins [] [eval (.Constant (.str s1) j1 p1) X.env,eval (.FormattedValue v (-1) none p2) X.env,eval (.Constant (.str s2) j2 p3) X.env] (fun r=>r=s1.cps.toList ++ iy i ++ s2.cps.toList) :=
  yS (by simp only [List.length_append,List.length_nil]; lia) (Ey hv h1 (by simp only [List.length_append,List.length_nil]; lia) (yS (by simp only [List.length_append,List.length_nil]; lia) (Mf (by simp only [List.length_append,List.length_nil]; lia) (by simp))))
 refine JoinedStr_many (key s _ I fun r t s' e l I'=>?_)
 subst e
 exact ⟨.str _,H,I',⟨t,rfl⟩,f.at sm.lJ (nY (x:=s1.cps.toList ++ iy i ++ s2.cps.toList) l) h⟩
theorem Ws {pre mid:List Nat} {s1 s2:Str} {j1 j2:Nat} {p1 p2 p3 p4 pos:Pos} {v u:Expr} {i j:Int} (e1:s1.cps.toList=pre) (e2:s2.cps.toList=mid) (hv:PE X v (tC (.int i))) (hu:PE X u (tC (.int j))) :
  PE X (.JoinedStr [.Constant (.str s1) j1 p1,.FormattedValue v (-1) none p2,.Constant (.str s2) j2 p3,.FormattedValue u (-1) none p4] pos) (LE X.K fun _ μ Q=>(i.natAbs.log2 < 1920/\j.natAbs.log2 < 1920/\(pre ++ iy i ++ mid ++ iy j).length<=10000)/\Q (.str (pre ++ iy i ++ mid ++ iy j)) μ):=by
 intro pins s σ H Q I h
 obtain ⟨ρ,θ,μ,Qd,sm,⟨⟨h1,h2,h3⟩,h⟩,f⟩:=h
 subst e1 e2
 simp only [List.length_append] at h3
 have key:PJ X σ H pins [] [eval (.Constant (.str s1) j1 p1) X.env,eval (.FormattedValue v (-1) none p2) X.env,eval (.Constant (.str s2) j2 p3) X.env,eval (.FormattedValue u (-1) none p4) X.env] (fun r=>r=s1.cps.toList ++ iy i ++ s2.cps.toList ++ iy j) :=
  yS (by simp only [List.length_append,List.length_nil]; lia) (Ey hv h1 (by simp only [List.length_append,List.length_nil]; lia) (yS (by simp only [List.length_append,List.length_nil]; lia) (Ey hu h2 (by simp only [List.length_append,List.length_nil]; lia) (Mf (by simp only [List.length_append,List.length_nil]; lia) (by simp)))))
 refine JoinedStr_many (key s _ I fun r t s' e l I'=>?_)
 subst e
 exact ⟨.str _,H,I',⟨t,rfl⟩,f.at sm.lJ (nY (x:=s1.cps.toList ++ iy i ++ s2.cps.toList ++ iy j) l) h⟩
end
end DW
end
section
set_option maxHeartbeats 2000000
namespace DW
open PySem PySem.Spec PyProof.Rows L2
section
variable {K:PySem.W.Frag} {H:Hp} {θ:List Addr} {μ:Mem} {f:String} {d:D} {v:V}
end
section
variable {X:Cx}
theorem Ac {o:Expr} {m:Str} {env:Env} (h:vB o=true):attributeBase o m env (eval o env)=eval o env:=by
 cases o with
 | Call f as ks p=>rcases vA h with ⟨x,q,a,r,rfl,rfl⟩ | ⟨o,m',q,rfl⟩ <;> rfl
 | _=>first | rfl | exact (Bool.false_ne_true h).elim
end
end DW
end
section
set_option maxHeartbeats 2000000
namespace DW
open PySem PySem.Spec PyProof.Rows L2
section
variable {X:Cx}
theorem rm {mg:Str->Option Value}:∀ {ts:List String} {vs:List V} {us:List Value},jt mg ts vs->Vals vs us->us=vs.map wQ
 | [],[],_,_,r=>by cases r; rfl
 | [],_ :: _,_,h,_=>h.elim
 | _ :: _,[],_,h,_=>h.elim
 | t :: ts,v :: vs,_,h,r=>by
  obtain ⟨h1,h2⟩:=h
  cases r with
  | cons r1 r2 =>
   rw [rm h2 r2]
   rcases h1 with ⟨C,rfl,_⟩ | ⟨rfl,_⟩
   ·cases r1; rfl
   ·cases r1; rfl
theorem oO {c:Ctx} (U6:∀ x,c.kY x=true->Gl X x):∀ {ts:List String} {as:List Expr} {vs:List V},DN c ts as=true->jt X.mg ts vs->PA X as (fun σ H Q=>Q vs H)
 | [],[],[],_,_=>uH
 | [],[],_ :: _,_,h=>h.elim
 | [],_ :: _,_,h,_=>by simp [DN] at h
 | _ :: _,[],_,h,_=>by simp [DN] at h
 | t :: ts,a :: as,[],_,h=>h.elim
 | t :: ts,a :: as,v :: vs,h,hv=>by
  obtain ⟨h1,h2⟩:=hv
  simp only [DN,Bool.and_eq_true] at h
  obtain ⟨k1,k2⟩:=h
  cases a with
  | Name z p =>
   simp only [Bool.and_eq_true,Bool.not_eq_true',beq_iff_eq] at k1
   obtain ⟨⟨rfl,k3⟩,k4⟩:=k1
   have r1:=oO U6 k2 h2
   rcases h1 with ⟨C,rfl,hm⟩ | ⟨rfl,hm,hb,hne⟩
   ·have pe:PE X (.Name (Str.ofString t) p) (tC (.ref C)):=sJ (U6 _ k3) hm rfl (bf k4).1
    exact PA.wk (gU pe r1 rfl) fun σ H Q q=>q
   ·have pe:PE X (.Name (Str.ofString t) p) (tC (.ty t)):=yV (U6 _ k3) hm hb rfl hne (bf k4).1
    exact PA.wk (gU pe r1 rfl) fun σ H Q q=>q
  | _=>simp at k1
theorem J3:bV X (.builtin "isinstance") (fun xs H Q=>∃ a C b t v,xs=[.ref a,v]/\jt X.mg [t] [v]/\(∃ o u,H a=some (.bK o u)/\o.cls = .ref C)/\jF X.K C/\PySem.W.kitOne X.K (.ref C) (wQ v)=some b/\Q (.bl b) H):=by
 intro pins s σ H xs us Q I r h
 obtain ⟨a,C,b,t,v,rfl,hv,ha,ec,hk,q⟩:=h
 obtain ⟨u1,u2,rfl,rx,ry⟩:=vals2 r
 cases rx
 have e:[u2]=[v].map wQ:=rm hv (.cons ry .nil)
 obtain rfl:u2=wQ v:=by simpa using e
 obtain ⟨ox,ux,ha,hcx⟩:=ha
 have hx:ExcAt a C s.heap:=⟨ox,(show aJ X.prog X.w H s.heap a (.bK ox ux) from I.hok a _ ha).1,hcx⟩
 exact PySem.W.kia_one (Cg ec) I.tu hx hk (fun z=>nomatch z) fun tk=>⟨.bl b,H,I.tok tk,rfl,q⟩
theorem J2:bV X (.builtin "isinstance") (fun xs H Q=>∃ a p C b ts vs,xs=[.ref a,.ref p]/\H p=some (.tup vs)/\jt X.mg ts vs/\(∃ o u,H a=some (.bK o u)/\o.cls = .ref C)/\jF X.K C/\PySem.W.kitAny X.K (.ref C) (vs.map wQ)=some b/\Q (.bl b) H):=by
 intro pins s σ H xs us Q I r h
 obtain ⟨a,p,C,b,ts,vs,rfl,hp,hv,ha,ec,hk,q⟩:=h
 obtain ⟨u1,u2,rfl,rx,ry⟩:=vals2 r
 cases rx
 cases ry
 obtain ⟨ox,ux,ha,hcx⟩:=ha
 have hx:ExcAt a C s.heap:=⟨ox,(show aJ X.prog X.w H s.heap a (.bK ox ux) from I.hok a _ ha).1,hcx⟩
 obtain ⟨_,its,rv,o,h1,h2,n,h3,_⟩:=(show aJ X.prog X.w H s.heap p (.tup vs) from I.hok p _ hp)
 obtain ⟨oc,od,dt,sl⟩:=o
 cases h2
 cases h3
 have e:its=vs.map wQ:=rm hv rv
 rw [<- e] at hk
 exact PySem.W.kia_tup (Cg ec) I.tu hx h1 hk (fun z=>nomatch z) fun tk=>⟨.bl b,H,I.tok tk,rfl,q⟩
theorem Hx {K:PySem.W.Frag} {H:Hp} {θ:List Addr} {μ:Mem} {n:Nat} {x:V} {c:String} {ks:List String} {ds:List D} (wk:cF K H θ μ) (r:Rp K H θ μ (.loc n) x) (hn:μ[n]? = some (.exc c ks ds)) :
  ∃ a C,x = .ref a/\PySem.W.nsIn K mainGlobals (Str.ofString c)=some (some (.ref C))/\(∃ o u,H a=some (.bK o u)/\o.cls = .ref C):=by
 obtain ⟨a,rfl,h1⟩:=aO r
 obtain ⟨C,o,u,h2,h3,h4,_⟩:=(show gJ K H θ μ a (.exc c ks ds) from wk.cell n _ a hn h1)
 exact ⟨a,C,rfl,h2,o,u,h3,h4⟩
theorem lookup_mem {α:Type}:∀ {l:List (String×α)} {x:String} {y:α},l.lookup x=some y->(x,y)∈l
 | [],_,_,h=>by simp at h
 | (a,b) :: l,x,y,h=>by
  rw [List.lookup_cons] at h
  split at h
  ·rename_i e
   cases h
   rw [eq_of_beq e]; exact List.mem_cons_self
  ·exact List.mem_cons_of_mem _ (lookup_mem h)
theorem Rn {c:Ctx} {a cl:Expr} {wa:WE} {tt:Bool} {ts:List String} {tab:List (String×Bool)} {y:Str} {p pos:Pos} (U6:∀ x,c.kY x=true->Gl X x) (R:dJ X (.wG tt ts tab) Bh) (ha:PE X a (LE X.K wa)) (ey:y=Str.ofString "isinstance") (g1:Gl X y) (m1:X.mg y=none)
  (hcl:mCl c tt ts cl=true) (hs:starEach [a,cl] X.env=(false,eval a X.env) :: starEach [cl] X.env) :
  PE X (.Call (.Name y p) [a,cl] [] pos) (LE X.K fun ρ μ Q=>wa ρ μ fun d μ1=>vX tab d μ1 Q):=by
 subst ey
 obtain ⟨vs,hv,htab⟩:=(show HW X.K X.mg tt ts tab from R)
 have key:∀ (d:D) (μ:Mem) (Qd:QD),vX tab d μ Qd->∃ n cn ks ds b,d = .loc n/\μ[n]? = some (.exc cn ks ds)/\(cn,b)∈tab/\Qd (.bl b) μ:=fun d μ Qd h=>by
  unfold vX at h
  split at h
  ·rename_i n
   split at h
   ·rename_i cn ks ds hn
    split at h
    ·rename_i b hb
     exact ⟨n,cn,ks,ds,b,rfl,hn,lookup_mem hb,h⟩
    ·exact h.elim
   ·exact h.elim
  ·exact h.elim
 cases tt with
 | false =>
  have hcl:DN c ts [cl]=true:=hcl
  have pa:=oO U6 hcl hv
  match ts,vs,hv,htab,hcl,pa with
  | [t],[v],hv,htab,hcl,pa =>
   have hpe:PE X cl (tC v):=by
    cases cl with
    | Name z q =>
     simp only [DN,Bool.and_eq_true,Bool.not_eq_true',beq_iff_eq] at hcl
     obtain ⟨⟨⟨rfl,k3⟩,k4⟩,_⟩:=hcl
     rcases hv.1 with ⟨C,rfl,hm⟩ | ⟨rfl,hm,hb,hne⟩
     ·exact sJ (U6 _ k3) hm rfl (bf k4).1
     ·exact yV (U6 _ k3) hm hb rfl hne (bf k4).1
    | _=>exact (Bool.false_ne_true hcl).elim
   have hst:starEach [cl] X.env=(false,eval cl X.env) :: starEach [] X.env:=by
    cases cl with
    | Name z q=>rfl
    | _=>exact (Bool.false_ne_true hcl).elim
   refine PE.wk (dW (x:=Str.ofString "isinstance") J3 g1 m1 mQ (gU ha (gU hpe uH hst) hs) (by decide +kernel) (by decide +kernel) hs (by rw [hst]; rfl)) fun σ H Q h=>?_
   obtain ⟨ρ,θ,μ,Qd,s,h,f⟩:=h
   refine ⟨ρ,θ,μ,_,s,h,fun d v' H1 θ1 μ1 w1 g1 r1 h1=>?_⟩
   obtain ⟨n,cn,ks,ds,b,rfl,hn,hb,hq⟩:=key d μ1 Qd h1
   obtain ⟨a',C,rfl,k1,k2⟩:=Hx w1 r1 hn
   obtain ⟨C',k3,k4,k5⟩:=htab _ hb
   rw [k1] at k3; cases k3
   rw [if_neg Bool.false_ne_true] at k5
   obtain ⟨v2,e2,k6⟩:=k5
   cases e2
   exact ⟨a',C,b,t,v,rfl,hv,k2,k4,k6,f _ _ H1 θ1 μ1 w1 g1 cZ hq⟩
  | [],_,_,_,hcl,_=>simp [DN] at hcl
  | _ :: _ :: _,_,_,_,hcl,_=>simp [DN] at hcl
  | [_],[],hv,_,_,_=>exact hv.elim
  | [_],_ :: _ :: _,hv,_,_,_=>exact hv.2.elim
 | true =>
  cases cl with
  | Tuple es k tp =>
   have hcl':DN c ts es=true/\es.length<=16777216:=by
    simp only [mCl,Bool.and_eq_true,decide_eq_true_eq] at hcl
    exact hcl
   have pa:=oO U6 hcl'.1 hv
   have hlen:∀ {ts:List String} {es:List Expr} {vs:List V},DN c ts es=true->jt X.mg ts vs->vs.length=es.length:=by
    intro ts
    induction ts with
    | nil =>
     intro es vs h1 h2
     cases es with
     | nil=>cases vs with | nil=>rfl | cons _ _=>exact h2.elim
     | cons _ _=>simp [DN] at h1
    | cons t ts ih =>
     intro es vs h1 h2
     cases es with
     | nil=>simp [DN] at h1
     | cons e es =>
      cases vs with
      | nil=>exact h2.elim
      | cons v vs =>
       simp only [DN,Bool.and_eq_true] at h1
       simp [ih h1.2 h2.2]
   have hl:=hlen hcl'.1 hv
   refine PE.wk (dW (x:=Str.ofString "isinstance") J2 g1 m1 mQ (gU ha (gU (Ml pa) uH rfl) hs) (by decide +kernel) (by decide +kernel) hs rfl) fun σ H Q h=>?_
   obtain ⟨ρ,θ,μ,Qd,s,h,f⟩:=h
   refine ⟨ρ,θ,μ,_,s,h,fun d v' H1 θ1 μ1 w1 g1 r1 h1=>?_⟩
   refine ⟨by rw [hl,sizeLine_eq]; exact hcl'.2,fun q hq=>?_⟩
   obtain ⟨n,cn,ks,ds,b,rfl,hn,hb,hq2⟩:=key d μ1 Qd h1
   obtain ⟨a',C,rfl,k1,k2⟩:=Hx w1 r1 hn
   obtain ⟨C',k3,k4,k5⟩:=htab _ hb
   rw [k1] at k3; cases k3
   rw [if_pos rfl] at k5
   have e1:=eU (o:=HO.tup vs) hq
   exact ⟨a',q,C,b,ts,vs,rfl,aA,hv,(let ⟨o,u,k6,k7⟩:=k2; ⟨o,u,e1 _ _ k6,k7⟩),k4,k5,f _ _ _ θ1 μ1 (w1.ext e1) (g1.trans (au.ext e1)) cZ hq2⟩
  | _=>exact (Bool.false_ne_true hcl).elim
end
section
variable {X:Cx} {EX:L2.St->XK}
noncomputable def LX (K:PySem.W.Frag) (EX:L2.St->XK) (w:(dI->QX)->WE):TE:=fun σ H Q=>∃ ρ θ μ Qd Xd,qm K σ H ρ θ μ/\w Xd ρ μ Qd/\Fin K H θ μ Qd Q/\∀ (H':Hp) (θ':List Addr) (μ':Mem) (c:String) (ks:List String) (ds:List D),cF K H' θ' μ'->au H θ μ H' θ' μ'->Xd ρ c ks ds μ'->Pz K (EX σ) H' θ' μ' c ks ds
theorem Jj {x:Str} {sp:iY} {ws:WA} {p pos:Pos} {e:Expr} {es:List Expr} (M:Meets X EX) (R:dJ X (.fnX x sp) Bh) (hg:Gl X x) (ha:PA X (e :: es) (LA X.K ws)) (hdb:(x == ("__debug__" : Str))=false) (hs:starEach (e :: es) X.env=(false,eval e X.env) :: starEach es X.env)
  (hpl:(backTo pos (starEach es X.env)).any (·.1)=false):PE X (.Call (.Name x p) (e :: es) [] pos) (LX X.K EX fun Xd ρ μ Q=>ws ρ μ fun ds μ1=>sp ds μ1 Q (Xd ρ)):=by
 obtain ⟨fa,fd,ps,k,hm,hk,hb,F,hr⟩:=R
 refine PE.wk (Mz F hr hg hm hk hb M ha hdb hs hpl) fun σ H Q h=>?_
 obtain ⟨ρ,θ,μ,Qd,Xd,s,h,f,fx⟩:=h
 exact ⟨ρ,θ,μ,_,s,h,fun ds vs H1 θ1 μ1 w1 g1 r1 h1=>⟨ds,θ1,μ1,Qd,Xd ρ,w1,r1,h1,f.mono g1,fun H' θ' μ' c ks es w' g' z=>fx H' θ' μ' c ks es w' (g1.trans g') z⟩⟩
theorem Fb {x:Str} {sp:iY} {p pos:Pos} (M:Meets X EX) (R:dJ X (.fnX x sp) Bh) (hg:Gl X x) (hdb:(x == ("__debug__" : Str))=false):PE X (.Call (.Name x p) [] [] pos) (LX X.K EX fun Xd ρ μ Q=>sp [] μ Q (Xd ρ)):=by
 obtain ⟨fa,fd,ps,k,hm,hk,hb,F,hr⟩:=R
 refine PE.wk (Jk F hr hg hm hk hb M hdb) fun σ H Q h=>?_
 obtain ⟨ρ,θ,μ,Qd,Xd,s,h,f,fx⟩:=h
 exact ⟨[],θ,μ,Qd,Xd ρ,s.lJ,aB.nil,h,f,fx⟩
theorem Jf {E:XK} {c:String} {ws:WA} {np cpos pos:Pos} {args:List Expr} (L:Leaves X E) (hc:X.calm=true) (hg:Gl X (Str.ofString c)) (R:dJ X (.Wa c) Bh) (ha:PA X args (LA X.K ws))
  (hpl:(backTo cpos (starEach args X.env)).any (·.1)=false) (hd:(Str.ofString c == ("__debug__" : Str))=false) (hst:args=[]∨∃ e es,args=e :: es/\starEach (e :: es) X.env=(false,eval e X.env) :: starEach es X.env) :
  PS X (.Raise (some (.Call (.Name (Str.ofString c) np) args [] cpos)) none pos) (LS X.K (fun _=>E) fun Z ρ μ=>ws ρ μ fun ds μ1=>ds.length<=lim/\Z.xc ρ c [] [] μ1):=by
 obtain ⟨C,h1,h2,h3⟩:=(show HS X.K X.mg c from R)
 refine PS.wk (LC PySem.F.excBase_ValueError L hc hg h2 h3 ha hpl hd hst) fun D σ H h=>?_
 obtain ⟨ρ,θ,μ,Z,s,h,f⟩:=h
 refine ⟨ρ,θ,μ,_,s,h,fun ds vs H1 θ1 μ1 w1 g1 r1 q=>?_⟩
 refine ⟨by rw [<- r1.length,<- ou]; exact q.1,?_⟩
 obtain ⟨C',k1,k2⟩:=f.xc σ H1 ρ θ1 μ1 c [] [] (s.grow w1 g1) g1 q.2
 rw [h1] at k1; cases k1
 exact k2 none (.inl ⟨rfl,rfl⟩)
end
end DW
end
section
set_option maxHeartbeats 2000000
namespace DW
open PySem PySem.Spec PyProof.Rows L2
section
variable {X:Cx} {EX:L2.St->XK}
end
end DW
end
section
set_option maxHeartbeats 2000000
namespace DW
open PySem PySem.Spec PyProof.Rows L2
variable {X:Cx}
end DW
end
section
set_option maxHeartbeats 2000000
namespace DW
open PySem PySem.Spec PyProof.Rows L2
section
variable {prog:Program} {w:World} {A:Around} {E:Value->Shared->Prop} {s:Shared}
end
section
variable {X:Cx}
end
end DW
end
section
set_option maxHeartbeats 4000000
namespace DW
open PySem PySem.Spec PyProof.Rows L2
section
variable {X:Cx}
theorem zZ {o:Expr} {m:Str} {env:Env} (h:vB o=true) (hm:m=Str.ofString "append"∨m=Str.ofString "insert"):attributeBase o m env (eval o env)=eval o env:=by
 cases o with
 | Call f as ks p=>rcases vA h with ⟨x,q,a,r,rfl,rfl⟩ | ⟨o,m',q,rfl⟩ <;> rfl
 | _=>first | rfl | exact (Bool.false_ne_true h).elim
theorem XD {c:Ctx} {cpos:Pos} {as:Es} {e:Expr} {es:List Expr} (h:jC c as (e :: es)=true) (h30:(e :: es).length < 30):((backTo cpos (starEach (e :: es) X.env)).all (fun x=>!x.1) && (backToKw cpos (keywordEach [] X.env)).all (fun x=>x.1.isSome)
   && decide ((e :: es).length + ([]:List Keyword).length + (if ([]:List Keyword).isEmpty then 0 else 1) < 30))=true:=by
 have h1:(backTo cpos (starEach (e :: es) X.env)).all (fun x=>!x.1)=true:=by
  have:=iW (pos:=cpos) (env:=X.env) h
  rw [List.all_eq_not_any_not]
  simpa using this
 have h2:(backToKw cpos (keywordEach [] X.env)).all (fun x=>x.1.isSome)=true:=rfl
 rw [h1,h2]
 simpa using h30
noncomputable abbrev WO:=dI->Mem->(Option Int->Mem->Prop)->Prop
noncomputable def LO (K:PySem.W.Frag) (w:WO):TO:=fun σ H Q=>∃ ρ θ μ Qd,qm K σ H ρ θ μ/\w ρ μ Qd/\∀ (o:Option Int) (H':Hp) (θ':List Addr) (μ':Mem),cF K H' θ' μ'->au H θ μ H' θ' μ'->Qd o μ'->Q o H'
theorem Ma:PO X none (LO X.K fun _ μ Q=>Q none μ):=fun pins s σ H Q I h=>by
 obtain ⟨ρ,θ,μ,Qd,sm,h,f⟩:=h
 exact Ra pins s σ H Q I (f none H θ μ sm.lJ au.refl h)
theorem LR {a:Expr} {w:WE} (ha:PE X a (LE X.K w)):PO X (some a) (LO X.K fun ρ μ Q=>w ρ μ fun d μ1=>DX d μ1 fun i μ2=>Q (some i) μ2):=fun pins s σ H Q I h=>by
 obtain ⟨ρ,θ,μ,Qd,sm,h,f⟩:=h
 refine Q9 ha pins s σ H Q I ⟨ρ,θ,μ,_,sm,h,fun d v H1 θ1 μ1 w1 g1 r1 h1=>?_⟩
 cases d with
 | int i=>exact ⟨i,aF r1,f (some i) H1 θ1 μ1 w1 g1 h1⟩
 | _=>exact h1.elim
theorem Xa {m:Bool} {wa:WE} {wl wh:WO} {σ:L2.St} {H:Hp} {Q:VK} (h:LE X.K (fun ρ μ Q=>wa ρ μ fun x μ1=>wl ρ μ1 fun l μ2=>wh ρ μ2 fun h μ3=>Ia m x l h μ3 Q) σ H Q) :
  tSl (UL X.K m) (LE X.K wa) (LO X.K wl) (LO X.K wh) σ H Q:=by
 obtain ⟨ρ,θ,μ,Qd,s,h,f⟩:=h
 refine ⟨ρ,θ,μ,_,s,h,fun x v H1 θ1 μ1 w1 g1 r1 h1=>⟨ρ,θ1,μ1,_,s.grow w1 g1,h1,fun l H2 θ2 μ2 w2 g2 h2=>⟨ρ,θ2,μ2,_,s.grow w2 (g1.trans g2),h2,fun o H3 θ3 μ3 w3 g3 h3=>?_⟩⟩⟩
 exact ⟨x,θ3,μ3,Qd,w3,(g2.trans g3).rep r1,h3,f.mono ((g1.trans g2).trans g3)⟩
noncomputable def isTup:Expr->Bool
 | .Tuple ..=>true
 | _=>false
theorem tL {c:Ctx} {is:List Nat} {tt:Bool} {t:Expr} {it:It} (h:W3 c is tt t=true) (hz:nC tt it=true):nC (isTup t) it=true:=by
 cases it with
 | enum l _ =>
  simp only [nC] at hz ⊢
  subst hz
  cases t <;> first | rfl | exact (Bool.false_ne_true h).elim
 | _=>rfl
theorem Nq {c:Ctx} {it:It} {a:Expr} (h:mI c it a=true):fj a=true:=by
 cases it with
 | seq e=>simp only [mI,Bool.and_eq_true] at h; exact h.2
 | enum l b =>
  cases b with
  | false=>exact (Bool.false_ne_true h).elim
  | true =>
   obtain ⟨⟨o',m',args,ln⟩,e,_⟩:=ao h
   obtain ⟨p,q,rfl,_⟩:=qC e
   rfl
 | _ =>
  obtain ⟨t,e,_⟩:=ao h
  obtain ⟨p,q,rfl⟩:=bY e
  rfl
theorem lt_chain {p q:CmpOp} {wa wb wc:WE} {σ:L2.St} {H:Hp} {Q:Bool->Hp->Prop}
  (h:LT X.K (fun ρ μ Q=>wa ρ μ fun x μ1=>wb ρ μ1 fun y μ2=>cM p x y μ2 fun r μ3=>gK r μ3 fun t μ3=>if t=true then wc ρ μ3 fun z μ4=>cM q y z μ4 fun r μ5=>gK r μ5 Q else Q false μ3) σ H Q) :
  GC (yI (uT X.K (cM p)) (uT X.K (cM q)) (LE X.K wa) (LE X.K wb) (LE X.K wc)) σ H Q:=by
 obtain ⟨ρ,θ,μ,Qd,s,h,f⟩:=h
 refine Ce (Q:=fun x H'=>∃ k,x = .bl k/\Q k H') ⟨ρ,θ,μ,fun r μ'=>gK r μ' Qd,s,h,fun r v H1 θ1 μ1 w1 g1 r1 h1=>?_⟩
 cases r with
 | bl b=>exact ⟨b,dh r1,f b H1 θ1 μ1 w1 g1 h1⟩
 | _=>exact h1.elim
theorem pw_no {a:Expr} {t:TT} (h:∀ op vs pos,a≠.BoolOp op vs pos):∀ op vs pos,a = .BoolOp op vs pos->PW X a t:=fun op vs pos e=>absurd e (h op vs pos)
end
theorem Dp {c:Ctx} {x:E} {a:Expr} (hb:ZL x=true) (h:mE c x a=true):∃ y args p pos,a = .Call (.Name y p) args [] pos:=by
 cases x with
 | blt b as =>
  obtain ⟨⟨y,args⟩,e,_⟩:=ao h
  obtain ⟨p,pos,rfl⟩:=bY e
  exact ⟨y,args,p,pos,rfl⟩
 | _=>exact (Bool.false_ne_true hb).elim
theorem fU {c:Ctx} {as:Es} {e:Expr} {es:List Expr} (h:jC c as (e :: es)=true):notStar e=true/\∃ es',jC c es' es=true:=by
 cases as with
 | nil=>exact (Bool.false_ne_true h).elim
 | cons e' es' =>
  simp only [jC,Bool.and_eq_true] at h
  exact ⟨h.1.2,es',h.2⟩
theorem Rv {X:Cx} {k:Const} {j:Nat} {pos:Pos} {d:D} (h:mC k d=true):PE X (.Constant k j pos) (LE X.K (wE (.cst d))):=by
 cases k <;> cases d <;> simp only [mC,Bool.false_eq_true,Bool.and_eq_true,beq_iff_eq] at h
 ·exact PE.wk Wq fun σ H Q q=>lZ (fun _ _ _=>ur) q
 ·subst h; exact PE.wk Zh fun σ H Q q=>lZ (fun _ _ _=>cZ) q
 ·subst h; exact PE.wk EY fun σ H Q q=>lZ (fun _ _ _=>aY) q
 ·rename_i x y
  obtain ⟨h1,h2⟩:=h
  have h1:=of_decide_eq_true h1
  have h2:=of_decide_eq_true h2
  subst h1
  have e:x=⟨x.cps.toList.toArray⟩:=by simp
  refine PE.wk Ez fun σ H Q q=>lZ (fun _ _ _=>?_) q
  rw [e]
  exact nY (by rw [sizeLine_eq]; exact h2)
theorem aaj {c:Ctx} {it:It} {tt:Bool} (h:(c.calm || (uw it && !tt))=true):c.calm=true∨uw it=true:=by
 rcases Bool.or_eq_true_iff.mp h with h | h
 ·exact .inl h
 ·exact .inr (Bool.and_eq_true_iff.mp h).1
theorem aai {c:Ctx} {it:It} {tt:Bool} (h:(c.calm || (uw it && !tt))=true):tt=true->c.calm=true:=fun z=>by
 subst z
 simpa using h
mutual
theorem sE : ∀ (e : E) {X : Cx} {c : Ctx} {a : Expr}, CtxOk X c -> mE c e a = true -> bJ (dJ X) (fV X) e -> Snd X e a
  | .var i, X, c, a, C, h, _ => by
    have h : (opt (jg a) fun x => c.at_ i x && c.vis x && !cG x) = true := h
    obtain ⟨x, e, hh⟩ := ao h
    obtain ⟨pos, rfl⟩ := fL e
    have h := hh
    simp only [Bool.and_eq_true, Bool.not_eq_true'] at h
    obtain ⟨⟨h1, h2⟩, h3⟩ := h
    obtain ⟨o1, o2⟩ := bf h3
    have pe : PE X (.Name x pos) (LE X.K (wE (.var i))) := PE.wk (Rk (by rw [C.N]; exact jq h1) (C.vis x h2) o1 o2) fun σ H Q q => q
    refine ⟨pe, PT.wk (ji pe fun _ => rfl) fun σ H Q q => ?_, pw_no (fun _ _ _ z => by cases z)⟩
    obtain ⟨ρ, θ, μ, Qd, s, q, f⟩ := q
    refine ⟨ρ, θ, μ, Qd, s, ?_, f⟩
    simp only [wT] at q
    simp only [wE]
    split at q
    . exact q
    . exact q.elim
  | .cst d, X, c, a, C, h, _ => by
    have h : (opt (Ef a) fun k => mC k d) = true := h
    obtain ⟨k, e, hh⟩ := ao h
    obtain ⟨j, pos, rfl⟩ := Ed e
    have h := hh
    have pe := Rv (X := X) (j := j) (pos := pos) h
    refine ⟨pe, PT.wk (ji pe fun _ => rfl) fun σ H Q q => ?_, pw_no (fun _ _ _ z => by cases z)⟩
    obtain ⟨ρ, θ, μ, Qd, s, q, f⟩ := q
    exact ⟨ρ, θ, μ, Qd, s, q, f⟩
  | .Xw y d, X, c, a, C, h, ok => by
    have h : (opt (jg a) fun x => x == y && c.kY x && !cG x) = true := h
    obtain ⟨x, e, hh⟩ := ao h
    obtain ⟨pos, rfl⟩ := fL e
    have h := hh
    simp only [Bool.and_eq_true, Bool.not_eq_true', beq_iff_eq] at h
    obtain ⟨⟨rfl, h2⟩, h3⟩ := h
    obtain ⟨u, v, m, r, rp⟩ := (show fV X x d from ok)
    exact ⟨PE.wk (sJ (C.kY x h2) m r (bf h3).1) fun σ H Q q => lZ rp q, bB, pw_no (fun _ _ _ z => by cases z)⟩
  | .bin op l r, X, c, a, C, h, ok => by
    have h : (opt (Vw a) fun t => op == t.2.1 && mE c l t.1 && mE c r t.2.2) = true := h
    obtain ⟨⟨l', op', r'⟩, e, hh⟩ := ao h
    obtain ⟨pos, rfl⟩ := KJ e
    have h := hh
    simp only [Bool.and_eq_true, beq_iff_eq] at h
    obtain ⟨⟨rfl, h1⟩, h2⟩ := h
    exact ⟨PE.wk (Ze (X4 op) (sE l C h1 ok.1).pe (sE r C h2 ok.2).pe) fun σ H Q q => mj q, bB, pw_no (fun _ _ _ z => by cases z)⟩
  | .neg l, X, c, a, C, h, ok => by
    have h : (opt (Vu a) fun t => mE c l t) = true := h
    obtain ⟨l', e, hh⟩ := ao h
    obtain ⟨pos, rfl⟩ := Kv e
    have h := hh
    have S1 := sE l C h ok
    refine ⟨PE.wk (Zd Vy S1.pe) fun σ H Q q => ?_, bB, pw_no (fun _ _ _ z => by cases z)⟩
    obtain ⟨ρ, θ, μ, Qd, s, q, f⟩ := q
    refine ⟨ρ, θ, μ, _, s, q, fun x v H1 θ1 μ1 w1 g1 r1 h1 => ?_⟩
    cases x with
    | int i => exact ⟨i, aF r1, (f.mono g1).at w1 aY h1⟩
    | _ => exact h1.elim
  | .not l, X, c, a, C, h, ok => by
    have h : (opt (Vt a) fun t => mE c l t) = true := h
    obtain ⟨l', e, hh⟩ := ao h
    obtain ⟨pos, rfl⟩ := Ku e
    have h := hh
    have S1 := sE l C h ok
    refine ⟨PE.wk (Wo S1.pe) fun σ H Q q => ?_, PT.wk (Wf S1.pt) fun σ H Q q => ?_, pw_no (fun _ _ _ z => by cases z)⟩
    . obtain ⟨ρ, θ, μ, Qd, s, q, f⟩ := q
      refine ⟨ρ, θ, μ, _, s, q, fun x v H1 θ1 μ1 w1 g1 r1 h1 => ?_⟩
      cases x with
      | bl b => exact ⟨b, dh r1, (f.mono g1).at w1 cZ h1⟩
      | _ => exact h1.elim
    . obtain ⟨ρ, θ, μ, Qd, s, q, f⟩ := q
      exact ⟨ρ, θ, μ, _, s, q, fun b H1 θ1 μ1 w1 g1 h1 => f (!b) H1 θ1 μ1 w1 g1 h1⟩
  | .cmp op l r, X, c, a, C, h, ok => by
    have h : (opt (KH a) fun t => op == t.2.1 && mE c l t.1 && mE c r t.2.2 && fj t.2.2) = true := h
    obtain ⟨⟨l', op', r'⟩, e, hh⟩ := ao h
    obtain ⟨pos, rfl⟩ := Av e
    have h := hh
    simp only [Bool.and_eq_true, beq_iff_eq] at h
    obtain ⟨⟨⟨rfl, h1⟩, h2⟩, h3⟩ := h
    have S1 := sE l C h1 ok.1
    have S2 := sE r C h2 ok.2
    obtain ⟨k, hr⟩ := C.room
    exact ⟨PE.wk (yU (oN hr op) S1.pe S2.pe (nW h3)) fun σ H Q q => mj q, PT.wk (yR (oN hr op) S1.pe S2.pe (nW h3)) fun σ H Q q => Nt (w := wE (.cmp op l r)) (fun _ _ _ z => mj z) q, pw_no (fun _ _ _ z => by cases z)⟩
  | .wN l r n, X, c, a, C, h, ok => by
    have h : (opt (KH a) fun t => (t.2.1 == (if n then CmpOp.NotEq else CmpOp.Eq)) && mE c l t.1 && mE c r t.2.2 && fj t.2.2) = true := h
    obtain ⟨⟨l', op', r'⟩, e, hh⟩ := ao h
    obtain ⟨pos, rfl⟩ := Av e
    have h := hh
    simp only [Bool.and_eq_true, beq_iff_eq] at h
    obtain ⟨⟨⟨rfl, h1⟩, h2⟩, h3⟩ := h
    have S1 := sE l C h1 ok.1
    have S2 := sE r C h2 ok.2
    obtain ⟨k, hr⟩ := C.room
    cases n with
    | false => exact ⟨PE.wk (yU (Oz hr) S1.pe S2.pe (nW h3)) fun σ H Q q => mj q, PT.wk (yR (Oz hr) S1.pe S2.pe (nW h3)) fun σ H Q q => Nt (w := wE (.wN l r false)) (fun _ _ _ z => mj z) q, pw_no (fun _ _ _ z => by cases z)⟩
    | true => exact ⟨PE.wk (yU (Ni hr) S1.pe S2.pe (nW h3)) fun σ H Q q => mj q, PT.wk (yR (Ni hr) S1.pe S2.pe (nW h3)) fun σ H Q q => Nt (w := wE (.wN l r true)) (fun _ _ _ z => mj z) q, pw_no (fun _ _ _ z => by cases z)⟩
  | .chain p q l m r, X, c, a, C, h, ok => by
    have h : (opt (KD a) fun t => p == t.2.1 && q == t.2.2.1 && mE c l t.1 && mE c m t.2.2.2.1 && mE c r t.2.2.2.2 && fj t.2.2.2.2 && fj t.2.2.2.1) = true := h
    obtain ⟨⟨l', p', q', m', r'⟩, e, hh⟩ := ao h
    obtain ⟨pos, rfl⟩ := Ih e
    have h := hh
    simp only [Bool.and_eq_true, beq_iff_eq] at h
    obtain ⟨⟨⟨⟨⟨⟨rfl, rfl⟩, h1⟩, h2⟩, h3⟩, h4⟩, h5⟩ := h
    have S1 := sE l C h1 ok.1
    have S2 := sE m C h2 ok.2.1
    have S3 := sE r C h3 ok.2.2
    obtain ⟨k, hr⟩ := C.room
    have hm : lastMarks [p, q] [m', r'] = false := by
      show behindInMarks q r' = false
      exact nW h4
    exact ⟨PE.wk (Mx (oN hr p) (oN hr q) S1.pe S2.pe S3.pe hm) fun σ H Q z => Ce z, PT.wk (Lx (oN hr p) (oN hr q) S1.pe S2.pe S3.pe hm) fun σ H Q z => lt_chain z, pw_no (fun _ _ _ z => by cases z)⟩
  | .and x y, X, c, a, C, h, ok => by
    have h : (opt (Vx a) fun t => mE c x t.1 && mE c y t.2) = true := h
    obtain ⟨⟨v, y'⟩, e, h⟩ := ao h
    simp only [Bool.and_eq_true] at h
    have S1 := sE x C h.1 ok.1
    have S2 := sE y C h.2 ok.2
    rcases KN e with ⟨pos, rfl⟩ | ⟨w, z, rest, pos, rfl, rfl⟩
    . have pw : PW X (.BoolOp .And [v, y'] pos) (LT X.K (wT (.and x y))) := PW.wk (pw_and S1.pt (pw_and1 S2.pt)) fun σ H Q q => Nu q
      exact ⟨PE.wk (MN S1.pe (Mq S2.pe)) fun σ H Q q => NT q, pw.pt, fun _ _ _ _ => pw⟩
    . have pw : PW X (.BoolOp .And (v :: w :: z :: rest) pos) (LT X.K (wT (.and x y))) := PW.wk (pw_and S1.pt (S2.pw _ _ _ rfl)) fun σ H Q q => Nu q
      exact ⟨PE.wk (MN S1.pe S2.pe) fun σ H Q q => NT q, pw.pt, fun _ _ _ _ => pw⟩
  | .or x y, X, c, a, C, h, ok => by
    have h : (opt (vOr a) fun t => mE c x t.1 && mE c y t.2) = true := h
    obtain ⟨⟨v, y'⟩, e, h⟩ := ao h
    simp only [Bool.and_eq_true] at h
    have S1 := sE x C h.1 ok.1
    have S2 := sE y C h.2 ok.2
    rcases Qq e with ⟨pos, rfl⟩ | ⟨w, z, rest, pos, rfl, rfl⟩
    . have pw : PW X (.BoolOp .Or [v, y'] pos) (LT X.K (wT (.or x y))) := PW.wk (pw_or S1.pt (pw_or1 S2.pt)) fun σ H Q q => UJ q
      exact ⟨PE.wk (Uu S1.pe (Mq S2.pe)) fun σ H Q q => UW q, pw.pt, fun _ _ _ _ => pw⟩
    . have pw : PW X (.BoolOp .Or (v :: w :: z :: rest) pos) (LT X.K (wT (.or x y))) := PW.wk (pw_or S1.pt (S2.pw _ _ _ rfl)) fun σ H Q q => UJ q
      exact ⟨PE.wk (Uu S1.pe S2.pe) fun σ H Q q => UW q, pw.pt, fun _ _ _ _ => pw⟩
  | .call x sp as, X, c, a, C, h, ok => by
    have h : (opt (eV a) fun t => x == t.1 && c.kY x && !cG x && jC c as t.2) = true := h
    obtain ⟨⟨y, args⟩, e, hh⟩ := ao h
    obtain ⟨p, pos, rfl⟩ := bY e
    have h := hh
    simp only [Bool.and_eq_true, Bool.not_eq_true', beq_iff_eq] at h
    obtain ⟨⟨⟨rfl, h1⟩, h2⟩, h3⟩ := h
    have pe : PE X (.Call (.Name x p) args [] pos) (LE X.K (wE (.call x sp as))) := by
      cases args with
      | nil =>
        cases as with
        | nil => exact PE.wk (Jl ok.1 (C.kY x h1) (bf h2).1) fun σ H Q q => q
        | cons e es => exact (Bool.false_ne_true h3).elim
      | cons e es =>
        obtain ⟨hst, es', hes⟩ := fU h3
        exact PE.wk (MF ok.1 (C.kY x h1) (QT as C h3 ok.2) (bf h2).1 (cj hst) (iW hes)) fun σ H Q q => q
    exact ⟨pe, PT.wk (ji pe fun _ => rfl) fun σ H Q q => q, pw_no (fun _ _ _ z => by cases z)⟩
  | .blt x as, X, c, a, C, h, ok => by
    have h : (opt (eV a) fun t => c.calm && zB.contains x && Pg x == t.1 && bH c t.1 && jC c as t.2 && !t.2.isEmpty) = true := h
    obtain ⟨⟨y, args⟩, e, hh⟩ := ao h
    obtain ⟨p, pos, rfl⟩ := bY e
    have h := hh
    simp only [Bool.and_eq_true, Bool.not_eq_true', beq_iff_eq, bH] at h
    obtain ⟨⟨⟨⟨⟨hc, h0⟩, h1⟩, h2, h3⟩, h4⟩, h5⟩ := h
    cases args with
    | nil => simp at h5
    | cons a1 es =>
      obtain ⟨hst, es', hes⟩ := fU h4
      have pe : PE X (.Call (.Name y p) (a1 :: es) [] pos) (LE X.K (wE (.blt x as))) := PE.wk (Ry (as := []) (by simpa using h0) h1.symm (C.calm hc) (C.room) (C.kY y h2) (C.blt y h3) (QT as C h4 ok) (cj hst) (iW hes)) fun σ H Q q => q
      exact ⟨pe, PT.wk (ji pe fun _ => rfl) fun σ H Q q => q, pw_no (fun _ _ _ z => by cases z)⟩
  | .Gq x l r, X, c, a, C, h, ok => by
    have h : (false || (opt (yr a) fun t => (x == "{}" || x == "{t}") && mE c l t.1 && mE c r t.2) || false || false) = true := h
    rw [Bool.or_eq_true, Bool.or_eq_true, Bool.or_eq_true] at h
    rcases h with ((h | h) | h) | h
    rotate_left
    . obtain ⟨⟨k', v'⟩, e, hh⟩ := ao h
      obtain ⟨p, rfl⟩ := Ea e
      simp only [Bool.and_eq_true, beq_iff_eq, Bool.or_eq_true] at hh
      obtain ⟨⟨rfl | rfl, h1⟩, h2⟩ := hh
      . exact ⟨PE.wk (Wv (sE l C h1 ok.2.1).pe (sE r C h2 ok.2.2).pe) fun σ H Q q => q, bB, pw_no (fun _ _ _ z => by cases z)⟩
      . exact ⟨PE.wk (Wu (by obtain ⟨k, hr⟩ := C.room; have := hr.units; lia) (sE l C h1 ok.2.1).pe (sE r C h2 ok.2.2).pe) fun σ H Q q => q, bB, pw_no (fun _ _ _ z => by cases z)⟩
    . exact (Bool.false_ne_true h).elim
    . exact (Bool.false_ne_true h).elim
    exact (Bool.false_ne_true h).elim
  | .isin l t, X, c, a, C, h, ok => by
    have h : (opt (eV a) fun q => opt (yj q.2) fun w => opt (jg w.2) fun z => (q.1 == Str.ofString "isinstance") && bH c q.1 && ["int", "bool", "str", "tuple", "list", "dict"].contains t && (z == Str.ofString t) && bH c z && mE c l w.1 && notStar w.1) = true := h
    obtain ⟨⟨y, args⟩, e, hh⟩ := ao h
    obtain ⟨p, pos, rfl⟩ := bY e
    have h := hh
    obtain ⟨⟨l', zz⟩, e2, hh⟩ := ao h
    obtain rfl := oX e2
    have h := hh
    obtain ⟨z, e3, h⟩ := ao h
    obtain ⟨p2, e4⟩ := fL e3
    simp only at e4
    subst e4
    simp only [Bool.and_eq_true, beq_iff_eq, bH] at h
    obtain ⟨⟨⟨⟨⟨⟨h0, h1, h2⟩, h3⟩, h4⟩, h5, h6⟩, h7⟩, h8⟩ := h
    have pe : PE X (.Call (.Name y p) [l', .Name z p2] [] pos) (LE X.K (wE (.isin l t))) := PE.wk (Mr (sE l C h7 ok).pe h0 (by simpa using h3) h4 (C.kY y h1) (C.kY z h5) (C.blt y h2) (C.blt z h6) (cj h8)) fun σ H Q q => q
    refine ⟨pe, PT.wk (ji pe fun _ => rfl) fun σ H Q q => ?_, pw_no (fun _ _ _ z => by cases z)⟩
    obtain ⟨ρ, θ, μ, Qd, s, q, f⟩ := q
    refine ⟨ρ, θ, μ, _, s, q, fun r H1 θ1 μ1 w1 g1 h1 => f r H1 θ1 μ1 w1 g1 h1⟩
  | .isin l t (some ks), X, c, a, C, h, ok => (Bool.false_ne_true h).elim
  | .Qa m o as, X, c, a, C, h, ok => by
    have h : (opt (Ar a) fun t => ["get", "clear"].contains m && t.2.1 == Str.ofString m && vB t.1 && t.2.2.2 && mE c o t.1 && jC c as t.2.2.1 && decide (t.2.2.1.length < 30) && (t.2.2.1.isEmpty == (m == "clear"))) = true := h
    obtain ⟨⟨o', m', args, ln⟩, e, hh⟩ := ao h
    obtain ⟨apos, pos, rfl, e2⟩ := qC e
    have h := hh
    simp only [Bool.and_eq_true, beq_iff_eq] at h
    obtain ⟨⟨⟨⟨⟨⟨⟨h0, h2⟩, h3⟩, h4⟩, h5⟩, h6⟩, h7⟩, h8⟩ := h
    have hline : (apos.endLine == pos.line) = true := by rw [<- e2]; exact h4
    suffices pe : PE X _ (LE X.K (wE (.Qa m o as))) from ⟨pe, ji pe (fun _ => rfl), pw_no (fun _ _ _ z => by cases z)⟩
    subst h2
    cases args with
    | nil =>
      have hm : m = "clear" := by simpa using h8
      subst hm
      cases as with
      | cons e' es' => exact (Bool.false_ne_true h6).elim
      | nil => exact PE.wk (MK PySem.F.plainAttrs_dict PySem.F.slot_dict_clear PySem.F.type_dict_clear Iz (sE o C h5 ok.1).pe (Ac h3) hline) fun σ H Q q => R9 q
    | cons e es =>
      obtain ⟨hst, es', hes⟩ := fU h6
      have h0' : m = "get" ∨ m = "clear" := by simpa using h0
      have h7' := of_decide_eq_true h7
      rcases h0' with rfl | rfl
      . exact PE.wk (Zg PySem.F.plainAttrs_dict PySem.F.slot_dict_get PySem.F.type_dict_get (QJ (by obtain ⟨k, hr⟩ := C.room; have := hr.units; lia)) (sE o C h5 ok.1).pe (QT as C h6 ok.2) (Ac h3) (XD h6 h7') hline (cj hst) (iW hes)) fun σ H Q q => W9 (.inl rfl) q
      . exact absurd h8 (by simp)
  | .U9 pre mid x i y j bb, X, c, a, C, h, ok => by
    have key : ∀ {z : Str} {n : Int} {b : Expr}, fV X z (.int n) -> mG c z b = true -> PE X b (tC (.int n)) := fun {z n b} g hb => by
      obtain ⟨z', e3, h5⟩ := ao hb
      obtain ⟨q, rfl⟩ := fL e3
      simp only [Bool.and_eq_true, Bool.not_eq_true', beq_iff_eq] at h5
      obtain ⟨⟨rfl, h6⟩, h7⟩ := h5
      obtain ⟨u, v, m, r, rp⟩ := g
      have ev := aF (rp (fun _ => none) [] [])
      subst ev
      exact sJ (C.kY _ h6) m r (bf h7).1
    cases bb with
    | true =>
      have h : (opt (Qs a) fun t => (t.1 == pre) && (t.2.2.1 == mid) && mG c x t.2.1 && mG c y t.2.2.2) = true := h
      obtain ⟨⟨t1, t2, t3, t4⟩, e, hh⟩ := ao h
      obtain ⟨s1, j1, p1, p2, s2, j2, p3, p4, pos, rfl, e1, e2⟩ := Ky e
      simp only [Bool.and_eq_true, beq_iff_eq] at hh
      obtain ⟨⟨⟨h1, h2⟩, h3⟩, h4⟩ := hh
      exact ⟨PE.wk (Ws (e1.trans h1) (e2.trans h2) (key ok.1 h3) (key ok.2 h4)) fun σ H Q q => q, bB, pw_no (fun _ _ _ z => by cases z)⟩
    | false =>
      have h : (opt (Qt a) fun t => (t.1 == pre) && (t.2.2 == mid) && mG c x t.2.1) = true := h
      obtain ⟨⟨t1, t2, t3⟩, e, hh⟩ := ao h
      obtain ⟨s1, j1, p1, p2, s2, j2, p3, pos, rfl, e1, e2⟩ := Kz e
      simp only [Bool.and_eq_true, beq_iff_eq] at hh
      obtain ⟨⟨h1, h2⟩, h3⟩ := hh
      exact ⟨PE.wk (Wt (e1.trans h1) (e2.trans h2) (key ok.1 h3)) fun σ H Q q => q, bB, pw_no (fun _ _ _ z => by cases z)⟩
  | .idx x y, X, c, a, C, h, ok => by
    have h : (opt (yq a) fun t => mE c x t.1 && mE c y t.2 && dU t.2) = true := h
    obtain ⟨⟨x', y'⟩, e, hh⟩ := ao h
    obtain ⟨pos, rfl⟩ := oZ e
    have h := hh
    simp only [Bool.and_eq_true] at h
    have pe : PE X (.Subscript x' y' pos) (LE X.K (wE (.idx x y))) := PE.wk (Zf Xp (sE x C h.1.1 ok.1).pe (sE y C h.1.2 ok.2).pe (uF h.2)) fun σ H Q q => mj q
    exact ⟨pe, PT.wk (ji pe fun _ => rfl) fun σ H Q q => q, pw_no (fun _ _ _ z => by cases z)⟩
  | .slc m x lo hi, X, c, a, C, h, ok => by
    have h : (opt (Vs a) fun t => mE c x t.1 && mO c lo t.2.1 && mO c hi t.2.2) = true := h
    obtain ⟨⟨x', lo', hi'⟩, e, hh⟩ := ao h
    obtain ⟨p2, pos, rfl⟩ := Kr e
    have h := hh
    simp only [Bool.and_eq_true] at h
    exact ⟨PE.wk (Mp (V6 m) (sE x C h.1.1 ok.1).pe (sO lo C h.1.2 ok.2.1) (sO hi C h.2 ok.2.2)) fun σ H Q q => Xa q, bB, pw_no (fun _ _ _ z => by cases z)⟩
  | .tup as, X, c, a, C, h, ok => by
    have h : (opt (yp a) fun es => jC c as es && decide (es.length <= 16777216)) = true := h
    obtain ⟨es, e, hh⟩ := ao h
    obtain ⟨k, pos, rfl⟩ := oY e
    have h := hh
    simp only [Bool.and_eq_true] at h
    refine ⟨PE.wk (Ml (QT as C h.1 ok)) fun σ H Q q => ?_, bB, pw_no (fun _ _ _ z => by cases z)⟩
    obtain ⟨ρ, θ, μ, Qd, s, q, f⟩ := q
    refine ⟨ρ, θ, μ, _, s, q, fun ds vs H1 θ1 μ1 w1 g1 r1 h1 => ⟨?_, fun p hp => zj w1 (f.mono g1) r1 h1.2 hp⟩⟩
    rw [<- r1.length, <- ou]; exact h1.1
  | .lst m as, X, c, a, C, h, ok => by
    have h : (opt (Vv a) fun es => jC c as es && decide (es.length <= 16777216)) = true := h
    obtain ⟨es, e, hh⟩ := ao h
    obtain ⟨pos, rfl⟩ := Kw e
    have h := hh
    simp only [Bool.and_eq_true] at h
    refine ⟨PE.wk (Wr (QT as C h.1 ok)) fun σ H Q q => ?_, bB, pw_no (fun _ _ _ z => by cases z)⟩
    obtain ⟨ρ, θ, μ, Qd, s, q, f⟩ := q
    refine ⟨ρ, θ, μ, _, s, q, fun ds vs H1 θ1 μ1 w1 g1 r1 h1 => ⟨?_, fun p hp => sV w1 (f.mono g1) r1 h1.2 hp⟩⟩
    rw [<- r1.length, <- ou]; exact h1.1
  | .dsp ks as, X, c, a, C, h, ok => by
    replace h : W6 ks as a = true := h
    unfold W6 at h
    split at h
    . rename_i k i k' j jj jp pos
      simp only [Bool.and_eq_true, beq_iff_eq] at h
      obtain ⟨h1, rfl⟩ := h
      have hk : ∃ ke, k' = some ke /\ PE X ke (tC (kV (keyOf k))) := by
        unfold ZJ at h1
        split at h1
        . have e := eq_of_beq h1
          subst e
          exact ⟨_, rfl, EY⟩
        . rename_i st x _ _
          have e := of_decide_eq_true h1
          subst e
          refine ⟨_, rfl, ?_⟩
          have e2 : keyOf (.inr st.cps.toList) = .inr st := by simp [keyOf]
          rw [e2]
          exact Ez
        . cases h1
      obtain ⟨ke, rfl, hk⟩ := hk
      refine ⟨PE.wk (Mv hk EY) fun σ H Q q => ?_, bB, pw_no (fun _ _ _ z => by cases z)⟩
      obtain ⟨ρ, θ, μ, Qd, s, q, f⟩ := q
      exact fun p hp => Ng s.lJ f q.2 hp
    . cases h
  | .comp m n tt cap elt it cond, X, c, a, C, h, ok => by
    have h : (opt (KC a) fun t => (c.calm || (uw it && !tt)) && opt (sH tt t.2.1) fun xs => opt (gC c cap) fun cs => n == xs.length && vm c t.2.2.2.2 (xs ++ cs) cs && nC tt it && mI c it t.2.2.1 && W3 (c.Qc (xs ++ cs) t.2.2.2.2.names) (List.range n) tt t.2.1 && mE (c.Qc (xs ++ cs) t.2.2.2.2.names) elt t.1 && jC (c.Qc (xs ++ cs) t.2.2.2.2.names) cond t.2.2.2.1 && decide (t.2.2.2.1.length <= 1)) = true := h
    obtain ⟨⟨zR, tg, iter, ifs, scope⟩, e, hh⟩ := ao h
    obtain ⟨pos, rfl⟩ := wX e
    have h := hh
    simp only [Bool.and_eq_true] at h
    obtain ⟨hcm, h⟩ := h
    obtain ⟨xs, hxs, h⟩ := ao h
    obtain ⟨cs, hcs, h⟩ := ao h
    simp only [Bool.and_eq_true, beq_iff_eq] at h
    obtain ⟨⟨⟨⟨⟨⟨⟨hn, h1⟩, hz⟩, h2⟩, hg⟩, h3⟩, h4⟩, h5⟩ := h
    have h5 := of_decide_eq_true h5
    subst hn
    exact ⟨PE.wk (Rw (vh C hcs h1) (sI it C h2 ok.2.1 (tL hg hz) (aaj hcm)) (fun cl Ca s H ex => GZ (jU C h1 cl Ca s H ex) (aai hcm) hg) (fun cl Ca s H ex => sTs cond (jU C h1 cl Ca s H ex) h4 h5 ok.2.2) (fun cl Ca s H ex => (sE elt (jU C h1 cl Ca s H ex) h3 ok.1).pe) (qU (Nq h2))) fun σ H Q q => Hh (tgn hxs) q, bB, pw_no (fun _ _ _ z => by cases z)⟩
  | .wG l tt ts tab, X, c, a, C, h, ok => by
    have h : (opt (eV a) fun q => opt (yj q.2) fun w => (q.1 == Str.ofString "isinstance") && bH c q.1 && mE c l w.1 && notStar w.1 && mCl c tt ts w.2) = true := h
    obtain ⟨⟨y, args⟩, e, hh⟩ := ao h
    obtain ⟨p, pos, rfl⟩ := bY e
    have h := hh
    obtain ⟨⟨l', cl⟩, e2, hh⟩ := ao h
    obtain rfl := oX e2
    have h := hh
    simp only [Bool.and_eq_true, beq_iff_eq, bH] at h
    obtain ⟨⟨⟨⟨h0, h1, h2⟩, h3⟩, h4⟩, h5⟩ := h
    have pe := Rn (p := p) (pos := pos) C.kY ok.1 (sE l C h3 ok.2).pe h0 (C.kY y h1) (C.blt y h2) h5 (cj h4)
    refine ⟨PE.wk pe fun σ H Q q => q, PT.wk (Br pe fun _ => rfl) fun σ H Q q => ?_, pw_no (fun _ _ _ z => by cases z)⟩
    obtain ⟨ρ, θ, μ, Qd, s, q, f⟩ := q
    refine ⟨ρ, θ, μ, fun r μ2 => gK r μ2 Qd, s, q, fun d v H1 θ1 μ1 w1 g1 r1 h1 => ?_⟩
    cases d with
    | bl b => exact ⟨b, Gz w1 r1 rfl, f b H1 θ1 μ1 w1 g1 h1⟩
    | _ => exact h1.elim
  | .bK x, X, c, a, C, h, ok => by
    have S := sE x C h ok
    exact ⟨PE.wk (Rq S.pe) fun σ H Q q => q, bB, fun op vs pos e => fun wh pins s σ H Q I q => by obtain ⟨_, _, _, _, _, q, _⟩ := q; exact q.elim⟩
  | .bK x (some i), X, c, a, C, h, ok => by
    have S := sE x C h ok
    have pe : PE X a (LE X.K (wE (.bK x (some i)))) := PE.wk (Ro (i := i) S.pe) fun σ H Q q => q
    refine ⟨pe, ?_, fun op vs pos e => fun wh pins s σ H Q I q => ?_⟩
    . intro pins s σ H Q I q
      have hb : ZL x = true := by obtain ⟨_, _, _, _, _, q, _⟩ := q; exact q.1
      obtain ⟨y, args, p, pos, rfl⟩ := Dp hb h
      exact ji pe (fun _ => rfl) pins s σ H Q I (by obtain ⟨ρ, θ, μ, Qd, s, h, f⟩ := q; exact ⟨ρ, θ, μ, Qd, s, h.2, f⟩)
    . have hb : ZL x = true := by obtain ⟨_, _, _, _, _, q, _⟩ := q; exact q.1
      obtain ⟨y, args, p, pos, rfl⟩ := Dp hb h
      cases e
  | .Dc t, X, c, a, C, h, ok => by
    obtain ⟨p, rfl⟩ := Eb h
    exact ⟨PE.wk (Mu (t := t)) fun σ H Q q => q, bB, pw_no (fun _ _ _ z => by cases z)⟩
  | .qd x y, X, c, a, C, h, ok => by
    have h : (opt (yq a) fun t => c.calm && mE c x t.1 && mE c y t.2 && dU t.2) = true := h
    obtain ⟨⟨x', y'⟩, e, hh⟩ := ao h
    obtain ⟨pos, rfl⟩ := oZ e
    have h := hh
    simp only [Bool.and_eq_true] at h
    obtain ⟨⟨⟨hc, h1⟩, h2⟩, h3⟩ := h
    obtain ⟨k, hr⟩ := C.room
    exact ⟨PE.wk (Mw (by have := hr.units; lia) (sE x C h1 ok.1).pe (sE y C h2 ok.2).pe (uF h3)) fun σ H Q q => q, bB, pw_no (fun _ _ _ z => by cases z)⟩
  | .Nx m x rr, X, c, a, C, h, ok => by
    have h : (opt (eV a) fun t => opt (Ks t.2) fun r => opt (eV r) fun u => opt (Ks u.2) fun z => c.calm && (t.1 == Str.ofString (lrN m)) && bH c t.1 && (u.1 == Str.ofString (lrM rr)) && bH c u.1 && notStar r && mE c x z && notStar z && !rr && m.isSome) = true := h
    obtain ⟨⟨y, args⟩, e, hh⟩ := ao h
    obtain ⟨p, pos, rfl⟩ := bY e
    obtain ⟨r, e2, h2⟩ := ao hh
    cases Aq e2
    obtain ⟨⟨y2, args2⟩, e3, h3⟩ := ao h2
    obtain ⟨p2, pos2, rfl⟩ := bY e3
    obtain ⟨z, e4, h4⟩ := ao h3
    cases Aq e4
    simp only [Bool.and_eq_true, beq_iff_eq, bH] at h4
    obtain ⟨⟨⟨⟨⟨⟨⟨⟨⟨hc, k0⟩, k1, k2⟩, k3⟩, k4, k5⟩, k6⟩, k7⟩, k8⟩, k9⟩, k10⟩ := h4
    cases rr with
    | false =>
     cases m with
     | some m => exact ⟨PE.wk (Rm (m := m) (C.calm hc) k0 k3 (C.kY y k1) (C.blt y k2) (C.kY y2 k4) (C.blt y2 k5) (sE x C k7 ok).pe (by rw [cj k8]; rfl) (by rw [cj k6]; rfl)) fun σ H Q q => q, bB, pw_no (fun _ _ _ z => by cases z)⟩
     | none => cases k10
    | true => cases k9
theorem QT:∀ (es:Es) {X:Cx} {c:Ctx} {as:List Expr},CtxOk X c->jC c es as=true->dM (dJ X) (fV X) es->PA X as (LA X.K (wEs es))
 | .nil,X,c,as,C,h,_=>by
  have:as=[]:=by simpa [jC] using h
  subst this
  exact PA.wk G4 fun σ H Q q=>q
 | .cons e es,X,c,as,C,h,ok=>by
  cases as with
  | nil=>simp [jC] at h
  | cons a as =>
   simp only [jC,Bool.and_eq_true] at h
   exact PA.wk (uI (sE e C h.1.1 ok.1).pe (QT es C h.2 ok.2) (cj h.1.2)) fun σ H Q q=>q
theorem sO:∀ (es:Es) {X:Cx} {c:Ctx} {a:Option Expr},CtxOk X c->mO c es a=true->dM (dJ X) (fV X) es->PO X a (LO X.K (wO es))
 | .nil,X,c,a,C,h,_=>by
  cases a with
  | none=>exact fun pins s σ H Q I q=>Ma pins s σ H Q I q
  | some _=>simp [mO] at h
 | .cons e es,X,c,a,C,h,ok=>by
  cases a with
  | none=>simp [mO] at h
  | some a =>
   cases es with
   | nil=>exact fun pins s σ H Q I q=>LR (sE e C (by simpa [mO] using h) ok.1).pe pins s σ H Q I q
   | cons _ _=>simp [mO] at h
theorem sTs:∀ (es:Es) {X:Cx} {c:Ctx} {as:List Expr},CtxOk X c->jC c es as=true->as.length<=1->dM (dJ X) (fV X) es->Yh X as (LT X.K (wTs es))
 | .nil,X,c,as,C,h,_,_=>by
  have:as=[]:=by simpa [jC] using h
  subst this
  intro pins s σ H Q I q
  obtain ⟨ρ,θ,μ,Qd,sm,q,f⟩:=q
  exact Rc pins s σ H Q I (f true H θ μ sm.lJ au.refl q)
 | .cons e es,X,c,as,C,h,hl,ok=>by
  cases as with
  | nil=>simp [jC] at h
  | cons a as =>
   simp only [jC,Bool.and_eq_true] at h
   have:as=[]:=by
    cases as with
    | nil=>rfl
    | cons _ _=>simp at hl
   subst this
   have:es = .nil:=by
    cases es with
    | nil=>rfl
    | cons _ _=>simp [jC] at h
   subst this
   have S:=sE e C h.1.1 ok.1
   intro pins s σ H Q I q
   refine Rb S.pt pins s σ H Q I ?_
   obtain ⟨ρ,θ,μ,Qd,sm,q,f⟩:=q
   exact ⟨ρ,θ,μ,Qd,sm,q,f⟩
theorem sI:∀ (it:It) {X:Cx} {c:Ctx} {a tg:Expr},CtxOk X c->mI c it a=true->RG (dJ X) (fV X) it->nC (isTup tg) it=true->(c.calm=true∨uw it=true)->PI X tg a (LI X.K (wI it))
 | .seq e,X,c,a,tg,C,h,ok,_,hcm=>by
  simp only [mI,Bool.and_eq_true] at h
  exact fun pins s σ H R I q=>Rg (C.calm (hcm.resolve_right Bool.false_ne_true)) (sE e C h.1 ok).pe pins s σ H R I q
 | .rng as,X,c,a,tg,C,h,ok,_,hcm=>by
  have h:(opt (eV a) fun t=>(t.1 == Str.ofString "range") && bH c t.1 && jC c as t.2 && (t.2.length == 1 || t.2.length == 2))=true:=h
  obtain ⟨⟨y,args⟩,e,hh⟩:=ao h
  obtain ⟨p,pos,rfl⟩:=bY e
  have h:=hh
  simp only [Bool.and_eq_true,Bool.or_eq_true,beq_iff_eq,bH] at h
  obtain ⟨⟨⟨h0,h1,h2⟩,h3⟩,h4⟩:=h
  have hA:=QT as C h3 ok
  have hl:=CQ h3
  match args,h3,h4,hA,hl with
  | [a1],h3,_,hA,hl =>
   have k1:=(fU h3).1
   exact fun pins s σ H R I q=>Mh h0 (C.kY y h1) (C.blt y h2) hA (by rw [cj k1]; rfl) pins s σ H R I (by simp only [wI,hl] at q; exact q)
  | [a1,a2],h3,_,hA,hl =>
   obtain ⟨k1,es2,hes⟩:=fU h3
   have k2:=(fU hes).1
   exact fun pins s σ H R I q=>Mg h0 (C.kY y h1) (C.blt y h2) hA (by rw [cj k1,cj k2]; rfl) (by rw [cj k2]; rfl) pins s σ H R I (by simp only [wI,hl] at q; exact q)
  | [],_,h4,_,_=>simp at h4
  | _ :: _ :: _ :: _,_,h4,_,_=>simp at h4
 | .enum l,X,c,a,tg,C,h,ok,ht,hcm=>(Bool.false_ne_true h).elim
 | .enum o true,X,c,a,tg,C,h,ok,ht,_=>by
  have h:(opt (Ar a) fun t=>c.calm && t.2.1 == Str.ofString "items" && vB t.1 && t.2.2.2 && mE c o t.1 && t.2.2.1.isEmpty)=true:=h
  obtain ⟨⟨o',m',args,ln⟩,e,hh⟩:=ao h
  obtain ⟨apos,pos,rfl,e2⟩:=qC e
  have h:=hh
  simp only [Bool.and_eq_true,beq_iff_eq] at h
  obtain ⟨⟨⟨⟨⟨hc,h2⟩,h3⟩,h4⟩,h5⟩,h6⟩:=h
  have hline:(apos.endLine == pos.line)=true:=by rw [<- e2]; exact h4
  subst h2
  obtain rfl:=List.isEmpty_iff.mp h6
  simp only [nC] at ht
  cases tg with
  | Tuple es k tp=>exact fun pins s σ H R I q=>Rh (C.calm hc) (sE o C h5 ok).pe (Ac h3) hline pins s σ H R I q
  | _=>exact (Bool.false_ne_true ht).elim
end
end DW
end
section
set_option maxHeartbeats 4000000
namespace DW
open PySem PySem.Spec PyProof.Rows L2
theorem Fd {n m:Str} {pn pm pt Ym:Pos} {kt k2:Nat} {x y:Expr} {env:Env} (hk:env.scope.kind = .function) (hn:env.kindOf n=some .local) (hm:env.kindOf m=some .local) (h:MP n pn m pm x y=true) :
  swappedStores [.Tuple [.Name n pn,.Name m pm] kt pt] (.Tuple [x,y] k2 Ym) env=pure (some [n,m]):=by
 simp only [MP,Bool.and_eq_true,Bool.not_eq_true',beq_iff_eq,decide_eq_false_iff_not] at h
 obtain ⟨⟨⟨⟨⟨h1,h2⟩,h3⟩,h4⟩,h5⟩,h6⟩:=h
 have hb:env.blockKind = .function:=by unfold Env.blockKind; rw [hk]; rfl
 have d:([n,m]:List Str).eraseDups.length=2:=by
  have:(m == n)=false:=by simpa using fun z=>h2 z.symm
  simp [List.eraseDups,List.eraseDupsBy,List.eraseDupsBy.loop,this]
 unfold swappedStores
 have p1:Expr.pos (.Name n pn)=pn:=rfl
 have p2:Expr.pos (.Name m pm)=pm:=rfl
 simp [hb,hn,hm,h1,h3,h4,p1,p2,d]
 intro z
 rcases z with z | z
 ·cases x <;> first | exact (Bool.false_ne_true h5).elim | cases z
 ·cases y <;> first | exact (Bool.false_ne_true h6).elim | cases z
theorem Bf {t e:Expr} {n:Nat} {env:Env} (h:cX e=true):swapsWithSole [t] e n env=pure false:=mX h
theorem Gr {o i:Expr} {pos:Pos} {env:Env} (h:dU i=true):∀ v,assign (.Subscript o i pos) env v=(do
   let ov <- holding [v] (eval o env)
   let iv <- holding [v,ov] (eval i env)
   standAt pos
   holding [v,ov,iv] (setItem ov iv v)
   release [v,ov,iv] []):=by
 intro v
 cases i <;> first | rfl | exact (Bool.false_ne_true h).elim
section
variable {X:Cx} {EX:L2.St->XK}
theorem Fx {i:Nat} {we:WE} {D:Ends} {σ:L2.St} {H:Hp} (h:LS X.K EX (fun Z ρ μ=>we ρ μ fun d μ1=>Z.nx (ρ.set i (some d)) μ1) D σ H):Iu (LE X.K we) (CJ i) D σ H:=by
 obtain ⟨ρ,θ,μ,Z,s,h,f⟩:=h
 exact ⟨ρ,θ,μ,_,s,h,fun d v H1 θ1 μ1 w1 g1 r1 h1=>f.nx _ H1 _ θ1 μ1 ((s.grow w1 g1).set r1 i) g1 h1⟩
theorem W8 {bnd:D->dI->(dI->Prop)->Prop} {we:WE} {D:Ends} {σ:L2.St} {H:Hp} (h:LS X.K EX (fun Z ρ μ=>we ρ μ fun d μ1=>bnd d ρ fun ρ'=>Z.nx ρ' μ1) D σ H):Iu (LE X.K we) (LG X.K bnd) D σ H:=by
 obtain ⟨ρ,θ,μ,Z,s,h,f⟩:=h
 exact ⟨ρ,θ,μ,_,s,h,fun d v H1 θ1 μ1 w1 g1 r1 h1=>⟨d,ρ,θ1,μ1,_,s.grow w1 g1,r1,h1,fun σ' ρ' s' q=>f.nx σ' H1 ρ' θ1 μ1 s' g1 q⟩⟩
theorem Nv {wo wi we:WE} {D:Ends} {σ:L2.St} {H:Hp} (h:LS X.K EX (fun Z ρ μ=>we ρ μ fun v μ1=>wo ρ μ1 fun x μ2=>wi ρ μ2 fun y μ3=>qy x y v μ3 fun μ4=>Z.nx ρ μ4) D σ H) :
  Iu (LE X.K we) (Z6 (LE X.K wo) (LE X.K wi) (fun o i v H Q=>∃ x y z θ μ k,cF X.K H θ μ/\Rp X.K H θ μ x o/\Rp X.K H θ μ y i/\Rp X.K H θ μ z v/\qy x y z μ k/\∀ H' μ',cF X.K H' θ μ'->au H θ μ H' θ μ'->k μ'->Q H')) D σ H:=by
 obtain ⟨ρ,θ,μ,Z,s,h,f⟩:=h
 refine ⟨ρ,θ,μ,_,s,h,fun d v H1 θ1 μ1 w1 g1 r1 h1=>⟨ρ,θ1,μ1,_,s.grow w1 g1,h1,fun x vx H2 θ2 μ2 w2 g2 r2 h2=>⟨ρ,θ2,μ2,_,s.grow w2 (g1.trans g2),h2,fun y vy H3 θ3 μ3 w3 g3 r3 h3=>?_⟩⟩⟩
 exact ⟨x,y,d,θ3,μ3,_,w3,g3.rep r2,r3,(g2.trans g3).rep r1,h3,fun H4 μ4 w4 g4 q=>f.nx σ H4 ρ θ3 μ4 (s.grow w4 (((g1.trans g2).trans g3).trans g4)) (((g1.trans g2).trans g3).trans g4) q⟩
theorem yJ {tg v:Expr} {env:Env} (h:qO v=true):swappedStores [tg] v env=pure none:=by
 unfold swappedStores
 cases tg <;> first | rfl | (cases v <;> first | rfl | exact (Bool.false_ne_true h).elim)
end
structure Dv (X:Cx) (EX:L2.St->XK) (c:Ctx):Prop extends CtxOk X c where
 mt:Meets X EX
 lv:c.rs=true->∃ E,Leaves X E/\EX=fun _=>E
 st:c.calm=true->X.ex=[]/\X.stack=X.env :: X.outer/\X.env.frame=some X.env.locals
noncomputable def never:L2.St->XK:=fun _ _ _ _=>False
theorem V8 {X:Cx} {EX EX':L2.St->XK} {c:Ctx} {pn:List (Addr×Obj)} {ξ:Value->Shared->Prop} (C:Dv X EX c) (M:Meets (Xb X pn ξ) EX') (P:PassesOwn (model X.prog X.w) X.A X.env ξ):Dv (Xb X pn ξ) EX' { c with rs:=false } :=
 ⟨⟨C.N,C.nd,C.vis,C.loc,C.isl,C.kY,C.clo,C.blt,C.calm,C.room,P⟩,M,fun z=>(Bool.false_ne_true z).elim,C.st⟩
theorem Lp {X:Cx} {ea:Addr} (r:bU 15 X.A):bU 15 (Xh X ea).A:=⟨fun z=>absurd z (by decide),r.dp,r.un,r.gd⟩
theorem Wb {X:Cx} {ea:Addr} (r:∃ k,bU k X.A):∃ k,bU k (Xh X ea).A:=by
 obtain ⟨k,r⟩:=r
 have r:=r.mono (Nat.min_le_left k 15)
 exact ⟨min k 15,fun z=>absurd (Nat.le_trans z (Nat.min_le_right k 15)) (by decide),r.dp,r.un,r.gd⟩
theorem V7 {X:Cx} {EX:L2.St->XK} {c:Ctx} {ea:Addr} (C:Dv X EX c):Dv (Xh X ea) never { c with rs:=false,calm:=false } :=
 ⟨⟨C.N,C.nd,C.vis,C.loc,C.isl,C.kY,C.clo,C.blt,fun z=>(Bool.false_ne_true z).elim,Wb C.room,PassesOwn.never⟩,
  fun pins σ H s E' e s' I hE h=>by obtain ⟨_,ob,_,_,H',_,_,_,_,q⟩:=h; exact (hE _ _ H' q).elim,fun z=>(Bool.false_ne_true z).elim,fun z=>(Bool.false_ne_true z).elim⟩
theorem BW {c:Ctx} {k:XC} {a:Expr} (h:Yp c k a=true):cX a=true:=by
 cases k with
 | fn x sp as=>obtain ⟨t,e,_⟩:=ao h; obtain ⟨_,_,rfl⟩:=bY e; rfl
theorem sXC:∀ (k:XC) {X:Cx} {EX:L2.St->XK} {c:Ctx} {a:Expr},Dv X EX c->Yp c k a=true->Bw (dJ X) (fV X) k->PE X a (LX X.K EX (DR k))
 | .fn x sp as,X,EX,c,a,C,h,ok=>by
  replace h:(opt (eV a) fun t=>x == t.1 && c.kY x && !cG x && jC c as t.2)=true:=h
  obtain ⟨⟨y,args⟩,e,hh⟩:=ao h
  obtain ⟨p,pos,rfl⟩:=bY e
  replace h:=hh
  clear e hh
  simp only [Bool.and_eq_true,Bool.not_eq_true',beq_iff_eq] at h
  obtain ⟨⟨⟨rfl,h1⟩,h2⟩,h3⟩:=h
  cases args with
  | nil =>
   cases as with
   | nil=>exact PE.wk (Fb C.mt ok.1 (C.kY _ h1) (bf h2).1) fun σ H Q q=>q
   | cons e es=>exact (Bool.false_ne_true h3).elim
  | cons e es =>
   obtain ⟨hst,es',hes⟩:=fU h3
   exact PE.wk (Jj C.mt ok.1 (C.kY _ h1) (QT as C.toCtxOk h3 ok.2) (bf h2).1 (cj hst) (iW hes)) fun σ H Q q=>q
theorem Iw {X:Cx} {ea:Addr} {r:Rf} {sp:iZ} (h:hRf (dJ X) r sp):dJ (Xh X ea) r sp:=by
 cases r with
 | fn x=>obtain ⟨fa,fd,ps,h1,h2,h3,h4,h5⟩:=(show dJ X (.Yr x) sp from h); exact ⟨fa,fd,ps,15,h1,h2,h3,h4,Lp h5⟩
 | fld c f=>exact h.2
 | wG tt ts tab=>exact h.2
 | Ys f tab=>exact h.2
 | _=>exact absurd h.1 (by simp [Rf.still])
mutual
theorem sS:∀ (st:S) {X:Cx} {EX:L2.St->XK} {c:Ctx} {a:Stmt},Dv X EX c->mS c st a=true->Yn (dJ X) (fV X) st->PS X a (LS X.K EX (wS st))
 | .set i e,X,EX,c,a,C,h,ok=>by
  replace h:(opt (qH a) fun t=>opt (jg t.1) fun x=>c.at_ i x && c.loc x && mE c e t.2 && (cX t.2 || zH e))=true:=h
  obtain ⟨⟨tg,v⟩,e1,hh⟩:=ao h
  obtain ⟨x,e2,hh⟩:=ao hh
  obtain ⟨p,rfl⟩:=fL (a:=tg) e2
  obtain ⟨pos,rfl⟩:=jL e1
  replace h:=hh
  simp only [Bool.and_eq_true] at h
  obtain ⟨⟨⟨h1,h2⟩,h3⟩,h4⟩:=h
  obtain ⟨l1,l2⟩:=C.loc x h2
  have hN:X.N.Nodup:=by rw [C.N]; exact C.nd
  have hi:X.N[i]? = some x:=by rw [C.N]; exact jq h1
  have S:=sE e C.toCtxOk h3 ok
  by_cases hn:cX v=true
  ·exact PS.wk (Ew hN hi l1 S.pe (mX hn) l2) fun D σ H q=>Fx q
  ·have h4:zH e=true:=by
    rcases Bool.or_eq_true_iff.mp h4 with z | z
    ·exact absurd z hn
    ·exact z
   cases e with
   | comp m n tt cap elt it cond =>
    have hv:mE c (.comp m n tt cap elt it cond) v=true->∃ zR tg iter ifs scope DY,v = .ListComp zR [⟨tg,iter,ifs,0⟩] scope DY/\((c.calm || (uw it && !tt)) && opt (sH tt tg) fun xs=>opt (gC c cap) fun cs=>n == xs.length && vm c scope (xs ++ cs) cs && nC tt it && mI c it iter && W3 (c.Qc (xs ++ cs) scope.names) (List.range n) tt tg && mE (c.Qc (xs ++ cs) scope.names) elt zR && jC (c.Qc (xs ++ cs) scope.names) cond ifs && decide (ifs.length<=1))=true:=fun z=>by
     obtain ⟨⟨zR,tg,iter,ifs,scope⟩,e,hh⟩:=ao z
     obtain ⟨DY,e⟩:=wX e
     exact ⟨zR,tg,iter,ifs,scope,DY,e,hh⟩
    obtain ⟨zR,tg,iter,ifs,scope,DY,rfl,h9⟩:=hv h3
    replace h3:=h9
    have hsw:swapsWith (.ListComp zR [⟨tg,iter,ifs,0⟩] scope DY) (some (.Name x p)) pos.line X.env=pure (X.env.blockKind == .function && X.env.kindOf x == some .local && p.line == (Expr.ListComp zR [⟨tg,iter,ifs,0⟩] scope DY).pos.line && !(scope.names.any fun (n,k)=>n == x && (k == .local || k == .cell))):=rfl
    cases hb:(X.env.blockKind == .function && X.env.kindOf x == some .local && p.line == (Expr.ListComp zR [⟨tg,iter,ifs,0⟩] scope DY).pos.line && !(scope.names.any fun (n,k)=>n == x && (k == .local || k == .cell))) with
    | false =>
     rw [hb] at hsw
     exact PS.wk (Ew hN hi l1 S.pe hsw l2) fun D σ H q=>Fx q
    | true =>
     rw [hb] at hsw
     have hl:X.env.scope.names.lookup x=some .local:=by
      simp only [Bool.and_eq_true,beq_iff_eq] at hb
      exact hb.1.1.2
     simp only [Bool.and_eq_true] at h3
     obtain ⟨hcm,h3⟩:=h3
     obtain ⟨xs,hxs,h3⟩:=ao h3
     obtain ⟨cs,hcs,h3⟩:=ao h3
     simp only [Bool.and_eq_true,beq_iff_eq] at h3
     obtain ⟨⟨⟨⟨⟨⟨⟨hn,k1⟩,kz⟩,k2⟩,kg⟩,k3⟩,k4⟩,k5⟩:=h3
     have k5:=of_decide_eq_true k5
     subst hn
     have ok':bJ (dJ X) (fV X) elt/\RG (dJ X) (fV X) it/\dM (dJ X) (fV X) cond:=ok
     refine PS.wk (Eu (gt:=LG X.K fun d r k=>cL (List.range xs.length) tt d r k) (tt:=LT X.K (wTs cond)) (te:=LE X.K (wE elt)) (wi:=LI X.K (wI it)) (vh C.toCtxOk hcs k1) (sI it C.toCtxOk k2 ok'.2.1 (tL kg kz) (aaj hcm)) (fun cl Ca s H ex=>GZ (jU C.toCtxOk k1 cl Ca s H ex) (aai hcm) kg) (fun cl Ca s H ex=>sTs cond (jU C.toCtxOk k1 cl Ca s H ex) k4 k5 ok'.2.2) (fun cl Ca s H ex=>(sE elt (jU C.toCtxOk k1 cl Ca s H ex) k3 ok'.1).pe) (qU (Nq k2)) hN hi hl hsw) fun D σ H q=>?_
     have q:=Fx (we:=wE (.comp m xs.length tt cap elt it cond)) q
     exact Hh (tgn hxs) q
   | _=>cases h4
 | .IW is e,X,EX,c,a,C,h,ok=>by
  replace h:(opt (qH a) fun t=>opt (yp t.1) fun ts=>c.calm && fu c is ts && mE c e t.2 && cX t.2 && qO t.2)=true:=h
  obtain ⟨⟨tg,v⟩,e1,hh⟩:=ao h
  obtain ⟨ts,e2,hh⟩:=ao hh
  obtain ⟨k,p,rfl⟩:=oY (a:=tg) e2
  obtain ⟨pos,rfl⟩:=jL e1
  replace h:=hh
  simp only [Bool.and_eq_true] at h
  obtain ⟨⟨⟨⟨hcm,h1⟩,h2⟩,h3⟩,h4⟩:=h
  have S:=sE e C.toCtxOk h2 ok
  exact PS.wk (LQ S.pe (GZ C.toCtxOk (is:=is) (tt:=true) (fun _=>hcm) h1) (Bf h3) (yJ h4) rfl) fun D σ H q=>W8 q
 | .par i j x y,X,EX,c,a,C,h,ok=>by
  replace h:(opt (qH a) fun t=>opt (yp t.1) fun ts=>opt (yj ts) fun u=>opt (tV u.1) fun n=>opt (tV u.2) fun m=>opt (yp t.2) fun vs=>opt (yj vs) fun w=>c.calm && c.at_ i n.1 && c.at_ j m.1 && isLocal c n.1 && isLocal c m.1 && (i != j) && mE c x w.1 && mE c y w.2 && MP n.1 n.2 m.1 m.2 w.1 w.2)=true:=h
  obtain ⟨⟨tg,v⟩,e1,g1⟩:=ao h
  obtain ⟨ts,e2,g2⟩:=ao g1
  obtain ⟨⟨a1,a2⟩,e3,g3⟩:=ao g2
  obtain ⟨⟨n,pn⟩,e4,g4⟩:=ao g3
  obtain ⟨⟨m,pm⟩,e5,g5⟩:=ao g4
  obtain ⟨vs,e6,g6⟩:=ao g5
  obtain ⟨⟨x',y'⟩,e7,g7⟩:=ao g6
  obtain rfl:=tU (a:=a1) e4
  obtain rfl:=tU (a:=a2) e5
  obtain rfl:=oX (a:=ts) e3
  obtain ⟨kt,pt,rfl⟩:=oY (a:=tg) e2
  obtain rfl:=oX (a:=vs) e7
  obtain ⟨k2,Ym,rfl⟩:=oY (a:=v) e6
  obtain ⟨pos,rfl⟩:=jL e1
  replace h:=g7
  clear e1 e2 e3 e4 e5 e6 e7 g1 g2 g3 g4 g5 g6 g7
  simp only [Bool.and_eq_true,bne_iff_ne] at h
  obtain ⟨⟨⟨⟨⟨⟨⟨⟨hcm,h1⟩,h2⟩,h3⟩,h4⟩,h5⟩,h6⟩,h7⟩,h8⟩:=h
  have hN:X.N.Nodup:=by rw [C.N]; exact C.nd
  have hst:notStar x'=true/\notStar y'=true:=by
   simp only [MP,Bool.and_eq_true] at h8
   exact ⟨h8.1.2,h8.2⟩
  have hA:=uI (sE x C.toCtxOk h6 ok.1).pe (uI (sE y C.toCtxOk h7 ok.2).pe G4 (cj hst.2)) (cj (es:=[y']) hst.1)
  have U5:=C.isl n h3
  have U4:=C.isl m h4
  intro pins s σ H D I q
  refine Wi (C.calm hcm) hN (by rw [C.N]; exact jq h1) (by rw [C.N]; exact jq h2) h5 U5 U4 hA (Fd I.ok.kind U5 U4 h8) rfl pins s σ H D I ?_
  obtain ⟨ρ,θ,μ,Z,sm,q,f⟩:=q
  refine ⟨ρ,θ,μ,fun ds μ'=>Yz i j ds ρ μ' Z.nx,sm,q,fun ds vs H1 θ1 μ1 w1 g1 r1 h1=>?_⟩
  match ds,h1 with
  | [a1,b1],h1 =>
   obtain ⟨v,r,rfl,r2,r3⟩:=r1.cons_inv
   obtain ⟨w',r,rfl,r4,r5⟩:=r3.cons_inv
   cases r5.nil_inv
   exact ⟨v,w',rfl,f.nx _ H1 _ θ1 μ1 (((sm.grow w1 g1).set r2 i).set r4 j) g1 h1⟩
  | [],h1=>exact h1.elim
  | [_],h1=>exact h1.elim
  | _ :: _ :: _ :: _,h1=>exact h1.elim
 | .dput o i e,X,EX,c,a,C,h,ok=>by
  replace h:(opt (qH a) fun t=>opt (yq t.1) fun u=>c.calm && mE c o u.1 && mE c i u.2 && dU u.2 && mE c e t.2 && cX t.2)=true:=h
  obtain ⟨⟨tg,v⟩,e1,hh⟩:=ao h
  obtain ⟨⟨o',i'⟩,e2,hh⟩:=ao hh
  obtain ⟨p,rfl⟩:=oZ (a:=tg) e2
  obtain ⟨pos,rfl⟩:=jL e1
  replace h:=hh
  simp only [Bool.and_eq_true] at h
  obtain ⟨⟨⟨⟨⟨hc,h1⟩,h2⟩,h3⟩,h4⟩,h5⟩:=h
  obtain ⟨k,hr⟩:=C.room
  exact PS.wk (LK (by have:=hr.units; lia) (sE o C.toCtxOk h1 ok.1).pe (sE i C.toCtxOk h2 ok.2.1).pe (sE e C.toCtxOk h4 ok.2.2).pe (mX h5)) fun D σ H q=>q
 | .wZ o i e,X,EX,c,a,C,h,ok=>by
  replace h:(opt (qH a) fun t=>opt (yq t.1) fun u=>mE c o u.1 && mE c i u.2 && dU u.2 && mE c e t.2 && cX t.2)=true:=h
  obtain ⟨⟨tg,v⟩,e1,hh⟩:=ao h
  obtain ⟨⟨o',i'⟩,e2,hh⟩:=ao hh
  obtain ⟨p,rfl⟩:=oZ (a:=tg) e2
  obtain ⟨pos,rfl⟩:=jL e1
  replace h:=hh
  simp only [Bool.and_eq_true] at h
  obtain ⟨⟨⟨⟨h1,h2⟩,h3⟩,h4⟩,h5⟩:=h
  exact PS.wk (LQ (sE e C.toCtxOk h4 ok.2.2).pe (Wm (sE o C.toCtxOk h1 ok.1).pe (sE i C.toCtxOk h2 ok.2.1).pe Lg (Gr h3)) (Bf h5) (by cases v <;> rfl) rfl) fun D σ H q=>Nv q
 | .exp e,X,EX,c,a,C,h,ok=>by
  replace h:(opt (K9 a) fun v=>mE c e v && cX v)=true:=h
  obtain ⟨v,e1,hh⟩:=ao h
  obtain ⟨pos,rfl⟩:=Az e1
  replace h:=hh
  simp only [Bool.and_eq_true] at h
  refine PS.wk (GR (sE e C.toCtxOk h.1 ok).pe (mX h.2)) fun D σ H q=>?_
  obtain ⟨ρ,θ,μ,Z,s,q,f⟩:=q
  exact ⟨ρ,θ,μ,_,s,q,fun d v H1 θ1 μ1 w1 g1 r1 h1=>f.nx σ H1 ρ θ1 μ1 (s.grow w1 g1) g1 h1⟩
 | .ret e,X,EX,c,a,C,h,ok=>by
  replace h:(opt (VD a) fun o=>opt o fun v=>mE c e v)=true:=h
  obtain ⟨o,e1,hh⟩:=ao h
  obtain ⟨v,rfl,hh⟩:=ao hh
  obtain ⟨pos,rfl⟩:=KY e1
  replace h:=hh
  refine PS.wk (Wh (sE e C.toCtxOk h ok).pe) fun D σ H q=>?_
  obtain ⟨ρ,θ,μ,Z,s,q,f⟩:=q
  exact ⟨ρ,θ,μ,_,s,q,f.rt⟩
 | .ite t x y,X,EX,c,a,C,h,ok=>by
  replace h:(opt (uIf a) fun u=>mE c t u.1 && jc c x u.2.1 && jc c y u.2.2)=true:=h
  obtain ⟨⟨t',x',y'⟩,e1,hh⟩:=ao h
  obtain ⟨pos,rfl⟩:=QB e1
  replace h:=hh
  simp only [Bool.and_eq_true] at h
  refine PS.wk (Zc (sE t C.toCtxOk h.1.1 ok.1).pt (Ur x C h.1.2 ok.2.1) (Ur y C h.2 ok.2.2)) fun D σ H q=>?_
  obtain ⟨ρ,θ,μ,Z,s,q,f⟩:=q
  refine ⟨ρ,θ,μ,_,s,q,fun b H1 θ1 μ1 w1 g1 h1=>?_⟩
  cases b with
  | true=>exact ⟨ρ,θ1,μ1,Z,s.grow w1 g1,h1,f.mono g1⟩
  | false=>exact ⟨ρ,θ1,μ1,Z,s.grow w1 g1,h1,f.mono g1⟩
 | .for_ is tt it b,X,EX,c,a,C,h,ok=>by
  replace h:(opt (VL a) fun u=>c.calm && W3 c is tt u.1 && mI c it u.2.1 && jc c b u.2.2 && fj u.2.1 && nC tt it)=true:=h
  obtain ⟨⟨t',i',b'⟩,e1,hh⟩:=ao h
  obtain ⟨pos,rfl⟩:=K8 e1
  replace h:=hh
  simp only [Bool.and_eq_true] at h
  obtain ⟨⟨⟨⟨⟨hcm,h1⟩,h2⟩,h3⟩,h4⟩,hz⟩:=h
  exact PS.wk (Q7 C.pas (C.calm hcm) (sI it C.toCtxOk h2 ok.1 (tL h1 hz) (.inl hcm)) (GZ C.toCtxOk (fun _=>hcm) h1) (Ur b C h3 ok.2) (qU h4)) fun D σ H q=>q
 | .whl t b,X,EX,c,a,C,h,ok=>by
  replace h:(opt (Vz a) fun u=>mE c t u.1 && jc c b u.2)=true:=h
  obtain ⟨⟨t',b'⟩,e1,hh⟩:=ao h
  obtain ⟨pos,rfl⟩:=KQ e1
  replace h:=hh
  simp only [Bool.and_eq_true] at h
  exact PS.wk (Q6 C.pas (sE t C.toCtxOk h.1 ok.1).pt (Ur b C h.2 ok.2)) fun D σ H q=>q
 | .Kc,X,EX,c,a,C,h,ok=>fun pins s σ H D I q=>by
  obtain ⟨ρ,θ,μ,Z,sm,q,f⟩:=q
  exact q.elim
 | .p7 k,X,EX,c,a,C,h,ok=>by
  replace h:(opt (K9 a) fun v=>Yp c k v)=true:=h
  obtain ⟨v,e1,hh⟩:=ao h
  obtain ⟨pos,rfl⟩:=Az e1
  replace h:=hh
  refine PS.wk (GR (sXC k C h ok) (mX (BW h))) fun D σ H q=>?_
  obtain ⟨ρ,θ,μ,Z,s,q,f⟩:=q
  exact ⟨ρ,θ,μ,_,Z.xc,s,q,fun d v H1 θ1 μ1 w1 g1 r1 h1=>f.nx σ H1 ρ θ1 μ1 (s.grow w1 g1) g1 h1,fun H' θ' μ' cn ks ds w' g' z=>f.xc σ H' ρ θ' μ' cn ks ds (s.grow w' g') g' z⟩
 | .IV i k,X,EX,c,a,C,h,ok=>by
  replace h:(opt (qH a) fun t=>opt (jg t.1) fun x=>c.at_ i x && c.loc x && Yp c k t.2)=true:=h
  obtain ⟨⟨tg,v⟩,e1,hh⟩:=ao h
  obtain ⟨x,e2,hh⟩:=ao hh
  obtain ⟨p,rfl⟩:=fL (a:=tg) e2
  obtain ⟨pos,rfl⟩:=jL e1
  replace h:=hh
  simp only [Bool.and_eq_true] at h
  obtain ⟨⟨h1,h2⟩,h3⟩:=h
  obtain ⟨l1,l2⟩:=C.loc x h2
  refine PS.wk (Ew (by rw [C.N]; exact C.nd) (by rw [C.N]; exact jq h1) l1 (sXC k C h3 ok) (mX (BW h3)) l2) fun D σ H q=>?_
  obtain ⟨ρ,θ,μ,Z,s,q,f⟩:=q
  exact ⟨ρ,θ,μ,_,Z.xc,s,q,fun d v H1 θ1 μ1 w1 g1 r1 h1=>f.nx _ H1 _ θ1 μ1 ((s.grow w1 g1).set r1 i) g1 h1,fun H' θ' μ' cn ks ds w' g' z=>f.xc σ H' ρ θ' μ' cn ks ds (s.grow w' g') g' z⟩
 | .Je cn as,X,EX,c,a,C,h,ok=>by
  replace h:(opt (KZ a) fun v=>opt (eV v) fun t=>c.rs && c.calm && t.1 == Str.ofString cn && c.kY t.1 && !cG t.1 && jC c as t.2)=true:=h
  obtain ⟨v,e1,hh⟩:=ao h
  obtain ⟨⟨y,args⟩,e2,h9⟩:=ao hh
  obtain ⟨np,cpos,rfl⟩:=bY e2
  obtain ⟨pos,rfl⟩:=Ii e1
  replace h:=h9
  clear e1 e2 hh h9
  simp only [Bool.and_eq_true,Bool.not_eq_true',beq_iff_eq] at h
  obtain ⟨⟨⟨⟨⟨h1,h2⟩,rfl⟩,h4⟩,h5⟩,h6⟩:=h
  obtain ⟨E,L,rfl⟩:=C.lv h1
  refine PS.wk (Jf L (C.calm h2) (C.kY _ h4) ok.1 (QT as C.toCtxOk h6 ok.2) (iW h6) (bf h5).1 ?_) fun D σ H q=>q
  cases args with
  | nil=>exact .inl rfl
  | cons e es =>
   refine .inr ⟨e,es,rfl,cj ?_⟩
   cases as with
   | nil=>simp [jC] at h6
   | cons e' es'=>simp only [jC,Bool.and_eq_true] at h6; exact h6.1.2
 | .Ir P tab i b hs,X,EX,c,a,C,h,ok=>by
  replace h:(opt (VB a) fun t=>opt (VJ t.2) fun u=>opt (jg u.1) fun y=>c.calm && c.at_ i u.2.1 && c.loc u.2.1 && y == Str.ofString P && c.kY y && !cG y && jc { c with rs:=false } b t.1 && jc { c with rs:=false,calm:=false } hs (u.2.2.1 :: u.2.2.2))=true:=h
  obtain ⟨⟨body,hd⟩,e1,hh⟩:=ao h
  obtain ⟨⟨yy,n,s0,suite⟩,e2,hh⟩:=ao hh
  obtain ⟨y,e3,hh⟩:=ao hh
  obtain ⟨np,rfl⟩:=fL (a:=yy) e3
  obtain ⟨hpos,rfl⟩:=K7 (a:=hd) e2
  obtain ⟨pos,rfl⟩:=KR e1
  replace h:=hh
  simp only [Bool.and_eq_true,Bool.not_eq_true',beq_iff_eq] at h
  obtain ⟨⟨⟨⟨⟨⟨⟨h1,h2⟩,h3⟩,rfl⟩,h5⟩,h6⟩,h7⟩,h8⟩:=h
  obtain ⟨CP,hm,htab⟩:=(show HX X.K X.mg P tab from ok.1)
  obtain ⟨x1,x2,x3⟩:=C.st h1
  refine PS.wk (Wg (tb:=fun EX'=>LS X.K EX' (wSs b)) (th:=LS X.K never (wSs hs)) (C.calm h1) x1 x2 x3 (by rw [C.N]; exact C.nd) (by rw [C.N]; exact jq h2) (C.loc n h3).1 (C.loc n h3).2 (C.kY _ h5) hm (bf h6).1
   (fun pn ξ EX' M Pn=>Ur b (V8 C M Pn) h7 ok.2.1) (fun ea=>Ur hs (V7 (ea:=ea) C) h8 (bF.mono hs (fun r sp z=>Iw z) (fun _ _ z=>z) ok.2.2))) fun D σ H q=>?_
  obtain ⟨ρ,θ,μ,Z,s,q,f⟩:=q
  refine ⟨ρ,θ,μ,_,s,q,⟨f.nx,f.rt,f.bk,f.ct,fun σ' H' ρ' θ' μ' cn ks ds s' g' z=>?_⟩⟩
  obtain ⟨z1,z3⟩:=z
  obtain ⟨C',k1,k2⟩:=htab cn (by simpa using z1)
  refine ⟨C',k1,fun dx hdx=>⟨C',rfl,k2,fun ea oe u he hcl hnc hdc=>?_⟩⟩
  have gn:au H' θ' μ' (upd H' ea (.bK oe u)) (θ' ++ [ea]) (μ' ++ [.exc cn ks ds]):=au.new s'.lJ he
  have wn:cF X.K (upd H' ea (.bK oe u)) (θ' ++ [ea]) (μ' ++ [.exc cn ks ds]):=s'.lJ.new (c:=.exc cn ks ds) he (show gJ X.K _ _ _ ea (.exc cn ks ds) from ⟨C',oe,u,k1,aA,hcl,hnc,by rw [hdc]; exact hdx.mono gn⟩)
  have rl:Rp X.K (upd H' ea (.bK oe u)) (θ' ++ [ea]) (μ' ++ [.exc cn ks ds]) (.loc μ'.length) (.ref ea):=by
   unfold Rep
   exact ⟨ea,rfl,by rw [<- s'.lJ.len]; simp⟩
  have f':=f.mono (g'.trans gn)
  exact ⟨_,_,_,_,(s'.grow wn gn).set rl i,z3,⟨fun _ _ _ _ _ _ _ z=>z.elim,f'.rt,fun _ _ _ _ _ _ _ z=>z.elim,fun _ _ _ _ _ _ _ z=>z.elim,fun _ _ _ _ _ _ _ _ _ _ z=>z.elim⟩⟩
theorem Ur:∀ (st:Ss) {X:Cx} {EX:L2.St->XK} {c:Ctx} {as:List Stmt},Dv X EX c->jc c st as=true->bF (dJ X) (fV X) st->vV X as (LS X.K EX (wSs st))
 | .nil,X,EX,c,as,C,h,_=>by
  have:as=[]:=by simpa [jc] using h
  subst this
  refine vV.wk Q5 fun D σ H q=>?_
  obtain ⟨ρ,θ,μ,Z,s,q,f⟩:=q
  exact f.nx σ H ρ θ μ s au.refl q
 | .cons s r,X,EX,c,as,C,h,ok=>by
  cases as with
  | nil=>simp [jc] at h
  | cons a as =>
   simp only [jc,Bool.and_eq_true] at h
   refine vV.wk (Ly (sS s C h.1 ok.1) (Ur r C h.2 ok.2)) fun D σ H q=>?_
   obtain ⟨ρ,θ,μ,Z,sm,q,f⟩:=q
   refine ⟨ρ,θ,μ,_,sm,q,⟨fun σ' H' ρ' θ' μ' s' g' z=>⟨ρ',θ',μ',Z,s',z,f.mono g'⟩,f.rt,f.bk,f.ct,f.xc⟩⟩
end
end DW
end
section
set_option maxHeartbeats 2000000
namespace DW
open PySem PySem.Spec PyProof.Rows L2
structure Top where
 P:Program
 w:World
 K:PySem.W.Frag
 mg:Str->Option Value
 base:Heap
noncomputable def vL (T:Top) (k:Nat):Rf->iZ->Prop
 | .fn x,sp=>∃ (fa:Addr) (fd:FuncData) (ps:List Str),T.mg x=some (.ref fa)/\PySem.W.keepIn T.K (.ref fa)=true/\Binds T.K fd ps []/\cQ T.P T.w T.K T.mg T.base (mW T.P T.w) k fa fd ps (low T.K sp)
 | .mth c m,sp=>∃ (C fa:Addr) (fd:FuncData) (ps:List Str),PySem.W.nsIn T.K mainGlobals (Str.ofString c)=some (some (.ref C))/\Cls T.K C/\Meth T.K C (Str.ofString m) fa/\Binds T.K fd ps []/\cQ T.P T.w T.K T.mg T.base (mW T.P T.w) k fa fd ps (low T.K sp)
 | .mk c,sp=>∃ (C fa:Addr) (fd:FuncData) (ps:List Str) (j:Nat),PySem.W.nsIn T.K mainGlobals (Str.ofString c)=some (some (.ref C))/\T.mg (Str.ofString c)=some (.ref C)/\Mk T.K C fa/\Binds T.K fd ps []/\cQ T.P T.w T.K T.mg T.base (mW T.P T.w) j fa fd ps (low T.K sp)/\j + 1<=k
 | .fld c f,_=>∃ C:Addr,PySem.W.nsIn T.K mainGlobals (Str.ofString c)=some (some (.ref C))/\Cls T.K C/\vH T.K C (Str.ofString f)
 | .fnX x sp,_=>∃ (fa:Addr) (fd:FuncData) (ps:List Str),T.mg x=some (.ref fa)/\PySem.W.keepIn T.K (.ref fa)=true/\Binds T.K fd ps []/\cQ T.P T.w T.K T.mg T.base (mW T.P T.w) k fa fd ps (zA T.K sp)
 | .RT c m sp,_=>∃ (C fa:Addr) (fd:FuncData) (ps:List Str),PySem.W.nsIn T.K mainGlobals (Str.ofString c)=some (some (.ref C))/\Cls T.K C/\Meth T.K C (Str.ofString m) fa/\Binds T.K fd ps []/\cQ T.P T.w T.K T.mg T.base (mW T.P T.w) k fa fd ps (zA T.K sp)
 | .mkX c sp,_=>∃ (C fa:Addr) (fd:FuncData) (ps:List Str) (j:Nat),PySem.W.nsIn T.K mainGlobals (Str.ofString c)=some (some (.ref C))/\T.mg (Str.ofString c)=some (.ref C)/\Mk T.K C fa/\Binds T.K fd ps []/\cQ T.P T.w T.K T.mg T.base (mW T.P T.w) j fa fd ps (zA T.K sp)/\j + 1<=k
 | .Yr x,sp=>∃ (fa:Addr) (fd:FuncData) (ps:List Str),T.mg x=some (.ref fa)/\PySem.W.keepIn T.K (.ref fa)=true/\Binds T.K fd ps []/\cQ T.P T.w T.K T.mg T.base (mW T.P T.w) 15 fa fd ps (low T.K sp)/\15<=k
 | .rsi c ks,_=>Vj T.P T.w T.K T.mg T.base c ks/\2<=k
 | .Ys f tab,_=>P0 T.K f tab
 | .Wa c,_=>HS T.K T.mg c
 | .lam,_=>False
 | .din x ks,_=>Vl T.K T.mg x ks
 | .dsp x ks sp,_=>Vk T.P T.w T.K T.mg T.base k x ks sp
 | .hdl P tab,_=>HX T.K T.mg P tab
 | .wG tt ts tab,_=>HW T.K T.mg tt ts tab
noncomputable abbrev aW (T:Top) (k:Nat):Rf->iZ->Prop:=vL T (k + 16)
noncomputable def aR (T:Top) (x:Str) (d:D):Prop:=∃ (u:Value) (v:V),T.mg x=some u/\RelV v u/\∀ H θ μ,Rp T.K H θ μ d v
theorem vL.up {T:Top} {j k:Nat} {x:Rf} {sp:iZ} (h:vL T j x sp) (hk:j<=k):vL T k x sp:=by
 cases x with
 | fn x =>
  obtain ⟨fa,fd,ps,h1,h2,h3,h4⟩:=h
  exact ⟨fa,fd,ps,h1,h2,h3,h4.mono hk⟩
 | mth c m =>
  obtain ⟨C,fa,fd,ps,h0,h1,h2,h3,h4⟩:=h
  exact ⟨C,fa,fd,ps,h0,h1,h2,h3,h4.mono hk⟩
 | mk c =>
  obtain ⟨C,fa,fd,ps,i,h0,h1,h2,h3,h4,h5⟩:=h
  exact ⟨C,fa,fd,ps,i,h0,h1,h2,h3,h4,Nat.le_trans h5 hk⟩
 | fld c f=>exact h
 | fnX x sp =>
  obtain ⟨fa,fd,ps,h1,h2,h3,h4⟩:=h
  exact ⟨fa,fd,ps,h1,h2,h3,h4.mono hk⟩
 | RT c m sp =>
  obtain ⟨C,fa,fd,ps,h0,h1,h2,h3,h4⟩:=h
  exact ⟨C,fa,fd,ps,h0,h1,h2,h3,h4.mono hk⟩
 | mkX c sp =>
  obtain ⟨C,fa,fd,ps,i,h0,h1,h2,h3,h4,h5⟩:=h
  exact ⟨C,fa,fd,ps,i,h0,h1,h2,h3,h4,Nat.le_trans h5 hk⟩
 | Yr x =>
  obtain ⟨fa,fd,ps,h1,h2,h3,h4,h5⟩:=h
  exact ⟨fa,fd,ps,h1,h2,h3,h4,Nat.le_trans h5 hk⟩
 | rsi c ks=>exact ⟨h.1,Nat.le_trans h.2 hk⟩
 | Ys f tab=>exact h
 | Wa c=>exact h
 | lam=>exact h.elim
 | din x ks=>exact h
 | dsp x ks sp =>
  obtain ⟨a,h1,h2,h3,h4⟩:=h
  refine ⟨a,h1,h2,h3,fun ds μ Q X q=>?_⟩
  obtain ⟨t,r,fa,fd,ps,DG,e1,e2,e3,e4,e5⟩:=h4 ds μ Q X q
  exact ⟨t,r,fa,fd,ps,DG,e1,e2,e3,e4.mono hk,e5⟩
 | hdl P tab=>exact h
 | wG tt ts tab=>exact h
theorem aW.up {T:Top} {j k:Nat} {x:Rf} {sp:iZ} (h:aW T j x sp) (hk:j<=k):aW T k x sp:=vL.up h (Nat.add_le_add_right hk 16)
theorem Ny {K:PySem.W.Frag} {sp:iY} {vs:List V} {H:Hp} {Q:VK} {E:XK} (h:low K (vq sp) vs H Q E):zA K sp vs H Q E:=by
 obtain ⟨ds,θ,μ,Qd,w,r,h,f⟩:=h
 exact ⟨ds,θ,μ,Qd,_,w,r,h,f,fun _ _ _ _ _ _ _ _ z=>z.elim⟩
theorem aW.calm {T:Top} {k:Nat} {x:Str} {sp:iY} (h:aW T k (.fnX x sp) Bh):aW T k (.fn x) (vq sp):=by
 obtain ⟨fa,fd,ps,h1,h2,h3,h4⟩:=h
 exact ⟨fa,fd,ps,h1,h2,h3,h4.imp fun _ _ _ _ z=>Ny z⟩
theorem Ht {T:Top} {x:Str} {i:Int} {t:Tok} (h:T.mg x=some (.int i t)):aR T x (.int i):=⟨_,.int i,h,⟨t,rfl⟩,fun _ _ _=>aY⟩
theorem IK {K:PySem.W.Frag} {H:Hp} {θ:List Addr} {μ:Mem} {ds:List D} {vs:List V} (N:List Str) (w:cF K H θ μ) (r:gH K H θ μ ds vs):qm K (L2.start N vs) H (aL N ds) θ μ:=by
 have hl:=r.length
 refine ⟨w,by simp [L2.start,aL,hl],fun i d h=>?_⟩
 unfold aL at h
 by_cases hi:i < ds.length
 ·rw [List.getElem?_append_left (by simpa using hi),List.getElem?_map] at h
  cases e:ds[i]? with
  | none=>rw [e] at h; cases h
  | some d' =>
   rw [e] at h; cases h
   obtain ⟨v,e1,e2⟩:=r.get e
   refine ⟨v,?_,e2⟩
   unfold L2.start
   rw [List.getElem?_append_left (by simpa using (hl ▸ hi)),List.getElem?_map,e1]; rfl
 ·rw [List.getElem?_append_right (by simpa using hi),List.getElem?_replicate] at h
  split at h <;> cases h
section
variable {T:Top} {k:Nat} {x qual:Str} {st:Stmt} {f:Addr} {fd:FuncData} {N ps bC:List Str} {i:Ss} {sp:iZ} {Y6:iY}
theorem R6 {A:Around} {outer:List Env} {s:Shared} {H:Hp} {E:XK} {cdv:Value} {scope:Scope} (hr:bU k (A.deeper (envOfC qual scope s.heap.objs.size f cdv))) {y:Rf} {DG:iZ} (z:vL T k y DG):dJ (wM (mW T.P T.w) T.P T.w T.K T.mg T.base N qual scope f cdv A outer s H E) y DG:=by
 cases y with
 | fn y =>
  obtain ⟨fa,fd',ps',h1,h2,h3,h4⟩:=z
  exact ⟨fa,fd',ps',k,h1,h2,h3,h4,hr⟩
 | mth c m =>
  obtain ⟨C',fa,fd',ps',h0,h1,h2,h3,h4⟩:=z
  exact ⟨C',fa,fd',ps',k,h0,h1,h2,h3,h4,hr⟩
 | mk c =>
  obtain ⟨C',fa,fd',ps',j,h0,h1,h2,h3,h4,h5⟩:=z
  exact ⟨C',fa,fd',ps',j,h0,h1,h2,h3,h4,hr.mono h5⟩
 | fld c f=>exact z
 | fnX y sp =>
  obtain ⟨fa,fd',ps',h1,h2,h3,h4⟩:=z
  exact ⟨fa,fd',ps',k,h1,h2,h3,h4,hr⟩
 | RT c m sp =>
  obtain ⟨C',fa,fd',ps',h0,h1,h2,h3,h4⟩:=z
  exact ⟨C',fa,fd',ps',k,h0,h1,h2,h3,h4,hr⟩
 | mkX c sp =>
  obtain ⟨C',fa,fd',ps',j,h0,h1,h2,h3,h4,h5⟩:=z
  exact ⟨C',fa,fd',ps',j,h0,h1,h2,h3,h4,hr.mono h5⟩
 | Yr y =>
  obtain ⟨fa,fd',ps',h1,h2,h3,h4,h5⟩:=z
  exact ⟨fa,fd',ps',h1,h2,h3,h4,hr.mono h5⟩
 | rsi c ks=>exact ⟨z.1,hr.mono z.2⟩
 | Ys f tab=>exact z
 | Wa c=>exact z
 | lam=>exact z.elim
 | din x ks=>exact z
 | dsp x ks sp=>exact ⟨k,hr,z⟩
 | hdl P tab=>exact z
 | wG tt ts tab=>exact z
theorem Pb {PL:Rf->iZ->Prop} {V5:Sp} {cm:Bool} (hcm:cm=true->16<=k) (F:Ke T.K x qual st f fd) (S:aK N ps (ak st)) (hmt:jc ⟨N,(ak st).names,bC,cm,true⟩ i (aD st)=true) (qT:∀ y,bC.contains y=true->T.mg y=none)
  (ok:bF PL (aR T) i) (hPL:∀ (A:Around) (outer:List Env) (s:Shared) (H:Hp) (E:XK) (oc:Value) (od an:Option Addr) (osl:Array (Option Value)) (kV doc pm cdv ct:Value),T.K.lookup f=some ⟨oc,od,.func (PySem.W.fnOf x qual (jm st) (aD st) (ak st) .none kV doc pm an cdv ct),osl⟩->bU k (A.deeper (envOfC qual (ak st) s.heap.objs.size f cdv))->∀ y DG,PL y DG->dJ (wM (mW T.P T.w) T.P T.w T.K T.mg T.base N qual (ak st) f cdv A outer s H E) y DG) (len:∀ vs H Q E,V5 vs H Q E->vs.length=ps.length)
  (hrun:∀ vs H Q E,V5 vs H Q E->∃ ds θ μ Z,cF T.K H θ μ/\gH T.K H θ μ ds vs/\wSs i Z (aL N ds) μ/\J9 T.K (fun _=>E) H θ μ Z { nx:=fun _ H'=>Q .non H',rt:=Q }) :
  cQ T.P T.w T.K T.mg T.base (mW T.P T.w) (k + 1) f fd ps V5:=by
 obtain ⟨oc,od,kV,doc,pm,an,cdv,ct,osl,rfl,lk,hcd⟩:=F.ex
 refine Va lk hcd S len fun A outer s H vs Q E hr h=>?_
 obtain ⟨ds,θ,μ,Z,lJ,r,hs,fin⟩:=hrun vs H Q E h
 have L:=Jv (P:=T.P) (w:=T.w) (K:=T.K) (mg:=T.mg) (base:=T.base) (N:=N) (qual:=qual) (scope:=ak st) (f:=f) (cd:=cdv) (A:=A) (outer:=outer) (s:=s) (H:=H) (E:=E)
 have C:Dv (wM (mW T.P T.w) T.P T.w T.K T.mg T.base N qual (ak st) f cdv A outer s H E) (fun _=>E) ⟨N,(ak st).names,bC,cm,true⟩:=by
  refine ⟨⟨rfl,S.nd,fun y hy=>?_,fun y hy=>?_,fun y hy=>?_,fun y hy=>?_,fun y hy=>hy,fun y hy=>qT y hy,fun z=>Option.isNone_iff_eq_none.mpr (hr.hd (hcm z)),⟨k,hr⟩,PassesOwn.leaving⟩,meets_of L,fun _=>⟨E,L,rfl⟩,fun _=>⟨rfl,rfl,rfl⟩⟩
  ·unfold Ctx.vis at hy
   split at hy
   ·rename_i z; exact .inl z
   ·rename_i z; exact .inr (.inl z)
   ·rename_i z; exact .inr (.inr z)
   ·cases hy
  ·unfold Ctx.loc at hy
   split at hy
   ·rename_i z; exact ⟨.inl z,.inl rfl⟩
   ·rename_i z; exact ⟨.inr z,.inl rfl⟩
   ·cases hy
  ·have hy':(ak st).names.lookup y=some .local:=by simpa [isLocal] using hy
   exact hy'
  ·unfold Ctx.kY at hy
   split at hy
   ·rename_i z; exact z
   ·cases hy
 refine ⟨LS T.K (fun _=>E) (wSs i),Ur i C hmt (bF.mono i (fun y DG z=>?_) (fun y d z=>z) ok),?_⟩
 ·exact hPL A outer s H E _ _ _ _ _ _ _ _ _ lk hr y DG z
 ·exact ⟨aL N ds,θ,μ,Z,IK N lJ r,hs,fin⟩
theorem HJ {V5:Sp} {cm:Bool} (hcm:cm=true->16<=k) (F:Ke T.K x qual st f fd) (S:aK N ps (ak st)) (hmt:jc ⟨N,(ak st).names,bC,cm,true⟩ i (aD st)=true) (qT:∀ y,bC.contains y=true->T.mg y=none)
  (ok:bF (vL T k) (aR T) i) (len:∀ vs H Q E,V5 vs H Q E->vs.length=ps.length)
  (hrun:∀ vs H Q E,V5 vs H Q E->∃ ds θ μ Z,cF T.K H θ μ/\gH T.K H θ μ ds vs/\wSs i Z (aL N ds) μ/\J9 T.K (fun _=>E) H θ μ Z { nx:=fun _ H'=>Q .non H',rt:=Q }) :
  cQ T.P T.w T.K T.mg T.base (mW T.P T.w) (k + 1) f fd ps V5:=Pb hcm F S hmt qT ok (fun A outer s H E _ _ _ _ _ _ _ _ _ _ hr y DG z=>R6 hr z) len hrun
theorem Ow (F:Ke T.K x qual st f fd) (S:aK N ps (ak st)) (hmt:jc (Ctx.of N (ak st).names bC) i (aD st)=true) (qT:∀ y,bC.contains y=true->T.mg y=none)
  (ok:bF (aW T k) (aR T) i) (har:∀ ds μ Q,sp ds μ Q->ds.length=ps.length) (hk:Keeps N i sp):cQ T.P T.w T.K T.mg T.base (mW T.P T.w) (k + 16 + 1) f fd ps (low T.K sp):=by
 refine HJ (fun _=>Nat.le_add_left 16 k) F S hmt qT ok (fun vs H Q E h=>?_) fun vs H Q E h=>?_
 ·obtain ⟨ds,θ,μ,Qd,lJ,r,hs,_⟩:=h
  rw [<- r.length]; exact har ds μ Qd hs
 ·obtain ⟨ds,θ,μ,Qd,lJ,r,hs,fin⟩:=h
  refine ⟨ds,θ,μ,iB Qd,lJ,r,hk ds μ Qd hs,⟨fun σ' H' ρ' θ' μ' s' g z=>?_,fin,fun _ _ _ _ _ _ _ z=>z.elim,fun _ _ _ _ _ _ _ z=>z.elim,fun _ _ _ _ _ _ _ _ _ _ z=>z.elim⟩⟩
  exact fin .non .non H' θ' μ' s'.lJ g ur z
theorem Tg (F:Ke T.K x qual st f fd) (S:aK N ps (ak st)) (hmt:jc (Ctx.of N (ak st).names bC) i (aD st)=true) (qT:∀ y,bC.contains y=true->T.mg y=none)
  (ok:bF (aW T k) (aR T) i) (har:∀ ds μ Q X,Y6 ds μ Q X->ds.length=ps.length) (hk:mU N i Y6):cQ T.P T.w T.K T.mg T.base (mW T.P T.w) (k + 16 + 1) f fd ps (zA T.K Y6):=by
 refine HJ (fun _=>Nat.le_add_left 16 k) F S hmt qT ok (fun vs H Q E h=>?_) fun vs H Q E h=>?_
 ·obtain ⟨ds,θ,μ,Qd,Xd,lJ,r,hs,_⟩:=h
  rw [<- r.length]; exact har ds μ Qd Xd hs
 ·obtain ⟨ds,θ,μ,Qd,Xd,lJ,r,hs,fin,ab0⟩:=h
  refine ⟨ds,θ,μ,lN Qd Xd,lJ,r,hk ds μ Qd Xd hs,⟨fun σ' H' ρ' θ' μ' s' g z=>?_,fin,fun _ _ _ _ _ _ _ z=>z.elim,fun _ _ _ _ _ _ _ z=>z.elim,fun σ' H' ρ' θ' μ' c ks es s' g z=>ab0 H' θ' μ' c ks es s'.lJ g z⟩⟩
  exact fin .non .non H' θ' μ' s'.lJ g ur z
theorem aad {y:Str} (F:Ke T.K x qual st f fd) (S:aK N ps (ak st)) (hmt:jc (Ctx.of N (ak st).names bC) i (aD st)=true) (qT:∀ y,bC.contains y=true->T.mg y=none)
  (ok:bF (aW T k) (aR T) i) (har:∀ ds μ Q,sp ds μ Q->ds.length=ps.length) (hk:Keeps N i sp) (hm:T.mg y=some (.ref f)) (hb:Binds T.K fd ps []):aW T (k + 1) (.fn y) sp :=
 ⟨f,fd,ps,hm,F.kp,hb,(Ow F S hmt qT ok har hk).mono (by lia:k + 16 + 1<=k + 1 + 16)⟩
end
theorem uz {K:PySem.W.Frag} {H:Hp} {θ:List Addr} {L:Addr->Prop}:∀ ns:List Int,aB K H θ L (ns.map D.int) (ns.map V.int)
 | []=>aB.nil
 | n :: ns=>aB.cons (by unfold Rep; rfl) (uz ns)
theorem Jw {K:PySem.W.Frag} {H:Hp} {a:Addr} {ns:List Int} (hl:ns.length<=63) (hO:Only H) (hS:lg K H a (ns.map V.int)):low K uf [.ref a] H (fun v _=>v = .bl true) fun _ _ _=>False:=by
 refine ⟨[.ro (ns.map D.int)],[],[],fun d _=>d = .bl true,⟨rfl,fun m n b h=>by simp at h,fun n b h=>by simp at h,fun n c b h=>by simp at h⟩,aB.one ?_,⟨ns,rfl,hl,fun _=>rfl⟩,fun d v H' θ' μ' w g r q=>?_⟩
 ·unfold Rep
  refine ⟨a,ns.map V.int,rfl,?_,uz ns⟩
  rcases hS with (h | ⟨o,h⟩) | h
  ·rcases hO a with z | ⟨o,xs,z⟩
   ·rw [h] at z; cases z
   ·rw [h] at z; cases z
  ·exact .inl ⟨o,h,fun ⟨n,c,e,_⟩=>by simp at e⟩
  ·exact .inr h
 ·subst q; exact dh r
theorem NZ {l:PySem.W.OpenLaw} {k:Nat} {q:Program} {loose:List Str} {XP:(Str->Option Value)->Heap->Prop} {YP:World->Heap->Prop} {d:DefRec} {K:Params->PySem.W.Frag} (hI:importsNone q=true) (hn:l.most=some 63) (hk:k<=200) (hdf:d.params.defaults=[])
  (hY:∀ (w:World) (h:Heap),YP w h->(K w.params).In h)
  (F:∀ (w:World) (mg:Str->Option Value) (fa:Addr) (h:Heap),(K w.params).In h->h.Ns mainGlobals mg->mg d.name=some (.ref fa) ->
   ∃ fd:FuncData,(∀ (s:Shared) (u:Value),BindsTo s fd ⟨[u],[]⟩ [("script",u)])/\∀ base:Heap,(K w.params).In base->base.Ns mainGlobals mg->cQ l.prog w (K w.params) mg base (mW l.prog w) k fa fd ["script"] (low (K w.params) uf)) :
  PySem.W.WalkO q loose XP YP l.row.toRowW d [] (fun f vs=>PySem.call f vs):=by
 have hr:bU 200 callerA:=⟨fun _=>rfl,by decide,by decide,rfl⟩
 exact L2.Gw (n:=63) (k:=k) (x:="script") (CX:=fun w=>mW l.prog w) (sp:=fun w=>low (K w.params) uf) hI hn (by decide) hdf (hr.mono hk) hY F (fun _ _ a ns hl hO hS=>Jw hl hO hS) fun w _ _ _ _ z=>by
  obtain ⟨_,_,_,_,_,_,_,_,_,q⟩:=z
  exact q
section
variable {T:Top} {h:Heap} {k:Nat} {x:Str} {ks:List (List Nat)} {Y6:iY}
end
section
variable {α:Type} {P:List α->Prop}
theorem len1 (h:∀ a,P [a]):∀ us:List α,us.length=1->P us
 | [a],_=>h a
theorem len2 (h:∀ a b,P [a,b]):∀ us:List α,us.length=2->P us
 | [a,b],_=>h a b
theorem R8 (h:∀ a b c,P [a,b,c]):∀ us:List α,us.length=3->P us
 | [a,b,c],_=>h a b c
theorem abC (h:∀ a b c d,P [a,b,c,d]):∀ us:List α,us.length=4->P us
 | [a,b,c,d],_=>h a b c d
end
noncomputable def aN (K:PySem.W.Frag) (x:Str) (st:Stmt):Prop:=∃ (f:Addr) (fd:FuncData),PySem.W.nsIn K mainGlobals x=some (some (.ref f))/\Ke K x x st f fd
theorem aP {K:PySem.W.Frag} {x:Str} {st:Stmt} {f:Addr} {oc:Value} {od an:Option Addr} {osl:Array (Option Value)} {kV doc pm cdv ct:Value} (a:PySem.W.nsIn K mainGlobals x=some (some (.ref f)))
  (l:K.lookup f=some ⟨oc,od,.func (PySem.W.fnOf x x (jm st) (aD st) (ak st) .none kV doc pm an cdv ct),osl⟩) (c:PySem.W.codeIn K cdv x=true) (k:PySem.W.keepIn K (.ref f)=true):aN K x st:=⟨f,_,a,Xy l c k⟩
theorem Cw {K:PySem.W.Frag} {x:Str} {i:Int} {t:Tok} (h:PySem.W.nsIn K mainGlobals x=some (some (.int i t))):∃ t,PySem.W.nsIn K mainGlobals x=some (some (.int i t)):=⟨t,h⟩
noncomputable def vJ (K:PySem.W.Frag):List Str->Prop
 | []=>True
 | x :: xs=>PySem.W.nsIn K mainGlobals x=some none/\vJ K xs
theorem Hv {K:PySem.W.Frag} {h:Heap} {mg:Str->Option Value} (X:K.In h) (G:h.Ns mainGlobals mg):∀ {xs:List Str},vJ K xs->∀ y,xs.contains y=true->mg y=none
 | [],_,y,h=>by simp at h
 | x :: xs,F,y,h=>by
  by_cases e:y=x
  ·subst e; exact PySem.W.mg_none_of X G F.1
  ·exact Hv X G F.2 y (by simpa [e] using h)
theorem iV {T:Top} {h:Heap} {k:Nat} {x:Str} {st:Stmt} {N ps bC:List Str} {i:Ss} {sp:iZ} (D:aN T.K x st) (X:T.K.In h) (G:h.Ns mainGlobals T.mg) (S:aK N ps (ak st)) (hmt:jc (Ctx.of N (ak st).names bC) i (aD st)=true) (qT:∀ y,bC.contains y=true->T.mg y=none)
  (hbd:∀ (kV doc pm:Value) (an:Option Addr) (cdv ct:Value) (us:List Value),us.length=ps.length->bindArgs (PySem.W.fnOf x x (jm st) (aD st) (ak st) .none kV doc pm an cdv ct) ⟨us,[]⟩=pure (ps.zip us))
  (har:∀ ds μ Q,sp ds μ Q->ds.length=ps.length) (hk:Keeps N i sp) (ok:bF (aW T k) (aR T) i):aW T (k + 1) (.fn x) sp:=by
 obtain ⟨f,fd,a,F⟩:=D
 exact aad F S hmt qT ok har hk (PySem.W.mg_of X G a) (F.binds hbd)
theorem qW {T:Top} {h:Heap} {k:Nat} {x:Str} {st:Stmt} {N ps bC:List Str} {i:Ss} {sp:iY} (D:aN T.K x st) (X:T.K.In h) (G:h.Ns mainGlobals T.mg) (S:aK N ps (ak st)) (hmt:jc (Ctx.of N (ak st).names bC) i (aD st)=true) (qT:∀ y,bC.contains y=true->T.mg y=none)
  (hbd:∀ (kV doc pm:Value) (an:Option Addr) (cdv ct:Value) (us:List Value),us.length=ps.length->bindArgs (PySem.W.fnOf x x (jm st) (aD st) (ak st) .none kV doc pm an cdv ct) ⟨us,[]⟩=pure (ps.zip us))
  (har:∀ ds μ Q X,sp ds μ Q X->ds.length=ps.length) (hk:mU N i sp) (ok:bF (aW T k) (aR T) i):aW T (k + 1) (.fnX x sp) Bh:=by
 obtain ⟨f,fd,a,F⟩:=D
 exact ⟨f,fd,ps,PySem.W.mg_of X G a,F.kp,F.binds hbd,(Tg F S hmt qT ok har hk).mono (by lia:k + 16 + 1<=k + 1 + 16)⟩
noncomputable def ab6 (K:PySem.W.Frag) (c f:String):Prop:=∃ C:Addr,PySem.W.nsIn K mainGlobals (Str.ofString c)=some (some (.ref C))/\PySem.W.findIn K (.ref C) (Str.ofString f)=some none
section
variable {T:Top} {k:Nat} {c m:String} {q:Str} {st:Stmt} {N ps bC:List Str} {i:Ss} {sp:iZ} {Y6:iY}
end
noncomputable def PB (K:PySem.W.Frag) (c:String):Prop:=∃ C,PySem.W.nsIn K mainGlobals (Str.ofString c)=some (some (.ref C))/\PySem.W.excIn K C Ph "ValueError.__new__" = true
theorem QV {K:PySem.W.Frag} {c:String} {C:Addr} (a:PySem.W.nsIn K mainGlobals (Str.ofString c)=some (some (.ref C))) (b:PySem.W.excIn K C Ph "ValueError.__new__" = true):PB K c:=⟨C,a,b⟩
noncomputable def J8 (K:PySem.W.Frag) (c:String):Prop:=∃ C,PySem.W.nsIn K mainGlobals (Str.ofString c)=some (some (.ref C))/\jF K C
theorem Ql {K:PySem.W.Frag} {c:String} {C:Addr} {cd:ClassData} (a:PySem.W.nsIn K mainGlobals (Str.ofString c)=some (some (.ref C))) (b:PySem.W.findIn K (.ref C) "__getattribute__" = some (some (.builtin "BaseException.__getattribute__"))) (d:PySem.W.findIn K (.ref C) "__getattr__" = some none)
  (e:PySem.W.mroIn K C (.type "BaseException")=some true) (f:PySem.W.mroIn K C (.type "object")=some true) (g:PySem.W.findIn K (.ref C) "__class__" = some (some (.builtin "object.__class__"))) (h:PySem.W.specialIn K (.builtin "object.__class__") "__get__" = some (some (.builtin "getset_descriptor.__get__")))
  (i:PySem.W.takesIn K (.builtin "object.__class__")=some true) (j:PySem.W.clsIn K C=some cd):J8 K c:=⟨C,a,⟨b,d,e,f,g,h,i,by rw [j]; rfl⟩⟩
noncomputable def PK (K:PySem.W.Frag) (P:String) (tab:List String):Prop:=∃ CP,PySem.W.nsIn K mainGlobals (Str.ofString P)=some (some (.ref CP))/\∀ c∈tab,∃ C,PySem.W.nsIn K mainGlobals (Str.ofString c)=some (some (.ref C))/\PySem.W.exmOne K (.ref C) (.ref CP)=some true
noncomputable def jV (K:PySem.W.Frag):List String->List V->Prop
 | [],[]=>True
 | t :: ts,v :: vs=>((∃ C,v = .ref C/\PySem.W.nsIn K mainGlobals (Str.ofString t)=some (some (.ref C)))∨(v = .ty t/\PySem.W.nsIn K mainGlobals (Str.ofString t)=some none/\bootBuiltins (Str.ofString t)=some (.type t)/\Str.ofString t≠"__name__"))/\jV K ts vs
 | _,_=>False
noncomputable def vI (K:PySem.W.Frag) (tt:Bool) (ts:List String) (tab:List (String×Bool)):Prop:=∃ vs,jV K ts vs/\∀ p∈tab,∃ C,PySem.W.nsIn K mainGlobals (Str.ofString p.1)=some (some (.ref C))/\jF K C /\
 (if tt=true then PySem.W.kitAny K (.ref C) (vs.map wQ)=some p.2 else ∃ v,vs=[v]/\PySem.W.kitOne K (.ref C) (wQ v)=some p.2)
section
variable {K:PySem.W.Frag} {h:Heap} {mg:Str->Option Value} (X:K.In h) (G:h.Ns mainGlobals mg)
include X G
theorem PB.at {c:String} (r:PB K c):HS K mg c:=by
 obtain ⟨C,h1,h2⟩:=r
 exact ⟨C,h1,PySem.W.mg_of X G h1,h2⟩
theorem PK.at {P:String} {tab:List String} (r:PK K P tab):HX K mg P tab:=by
 obtain ⟨C,h1,h2⟩:=r
 exact ⟨C,PySem.W.mg_of X G h1,h2⟩
theorem jV.at:∀ {ts:List String} {vs:List V},jV K ts vs->jt mg ts vs
 | [],[],_=>trivial
 | [],_ :: _,r=>r.elim
 | _ :: _,[],r=>r.elim
 | t :: ts,v :: vs,r=>by
  refine ⟨?_,jV.at r.2⟩
  rcases r.1 with ⟨C,e,h1⟩ | ⟨e,h1,h2,h3⟩
  ·exact .inl ⟨C,e,PySem.W.mg_of X G h1⟩
  ·exact .inr ⟨e,PySem.W.mg_none_of X G h1,h2,h3⟩
theorem vI.at {tt:Bool} {ts:List String} {tab:List (String×Bool)} (r:vI K tt ts tab):HW K mg tt ts tab:=by
 obtain ⟨vs,h1,h2⟩:=r
 exact ⟨vs,jV.at X G h1,h2⟩
end
noncomputable def Uc (K:PySem.W.Frag) (f:String):List String->Prop
 | []=>True
 | c :: cs=>(J8 K c/\ab6 K c f/\∃ C,PySem.W.nsIn K mainGlobals (Str.ofString c)=some (some (.ref C))/\PySem.W.hasDictIn K C=true)/\Uc K f cs
theorem Uc.at {K:PySem.W.Frag} {f:String}:∀ {tab:List String},Uc K f tab->P0 K f tab
 | [],_,c,m=>by simp at m
 | x :: tab,h,c,m=>by
  rcases List.mem_cons.mp m with rfl | m
  ·obtain ⟨⟨C,a1,a2⟩,⟨C',b1,b2⟩,C'',c1,c2⟩:=h.1
   rw [a1] at b1 c1; cases b1; cases c1
   exact ⟨C,a1,a2,b2,c2⟩
  ·exact Uc.at h.2 c m
end DW
end
section
namespace DW
open PySem
noncomputable def gM (μ:Mem) (n:Nat):Prop:=∃ b:Int,μ[n]? = some (.lst [.int b])
noncomputable def bx (μ:Mem) (n:Nat) (b:Int):Mem:=μ.set n (.lst [.int b])
noncomputable def jM:iZ:=fun ds μ Q=>match ds with
 | [.ro xs,.int k]=>∃ ns:List Int,xs=ns.map D.int/\ns.length < 1000/\0<=k/\∀ c,Q (.int c) μ
 | _=>False
noncomputable def mZ:iZ:=fun ds μ Q=>match ds with
 | [.int c,.int k]=>0<=k/\k < 1000/\∀ r,0<=r->r < 142857144->Q (.int r) μ
 | _=>False
noncomputable def pA:iZ:=fun ds μ Q=>match ds with
 | [.ro xs,.int k]=>∃ ns:List Int,xs=ns.map D.int/\ns.length < 1000/\0<=k/\∀ b,Q (.loc μ.length) (μ ++ [.lst [.int b]])
 | _=>False
noncomputable def cI:iZ:=fun ds μ Q=>match ds with
 | [.loc n,.int m]=>gM μ n/\0 < m/\m < 2 ^ 500/\∀ d b,0<=d->d < m->Q (.int d) (bx μ n b)
 | _=>False
noncomputable def sY:List Str:=["script","k"]
noncomputable def tG:Ss:=(.cons (.ite (.cmp .Lt (.var 1) (.blt "len" (.cons (.var 0) .nil))) (.cons (.ret (.idx (.var 0) (.var 1))) .nil) .nil) (.cons (.ret (.cst (.int 0))) .nil))
noncomputable def zp:List Str:=["cell","k","some","stir"]
noncomputable def zL:Ss:=(.cons (.set 2 (.lst false (.cons (.cst (.int 48271)) (.cons (.cst (.int 69621)) (.cons (.cst (.int 16807)) (.cons (.cst (.int 39373)) (.cons (.cst (.int 30269)) (.cons (.cst (.int 40014)) (.cons (.cst (.int 40692)) (.cons (.cst (.int 50021)) (.cons (.cst (.int 61687)) (.cons (.cst (.int 71993)) (.cons (.cst (.int 83869)) (.cons (.cst (.int 95561)) (.cons (.cst (.int 30307)) .nil))))))))))))))) (.cons (.set 3 (.bin .Add (.bin .Add (.bin .Mult (.bin .Add (.bin .Mod (.var 0) (.cst (.int 2147483647))) (.cst (.int 12345))) (.idx (.var 2) (.bin .Mod (.var 1) (.cst (.int 13))))) (.bin .Mult (.cst (.int 977)) (.var 1))) (.bin .Mult (.cst (.int 7919)) (.bin .FloorDiv (.var 1) (.cst (.int 13)))))) (.cons (.set 3 (.bin .Mod (.var 3) (.cst (.int 1000000007)))) (.cons (.ret (.bin .FloorDiv (.bin .Mod (.bin .Add (.bin .Mult (.var 3) (.var 3)) (.bin .Mult (.cst (.int 48271)) (.var 1))) (.cst (.int 1000000007))) (.cst (.int 7)))) .nil))))
noncomputable def zq:List Str:=["script","k","cell","number","j"]
noncomputable def zM:Ss:=(.cons (.set 2 (.call "_law_cell" jM (.cons (.var 0) (.cons (.var 1) .nil)))) (.cons (.ite (.cmp .Eq (.bin .Mod (.var 2) (.cst (.int 2))) (.cst (.int 0))) (.cons (.ret (.lst true (.cons (.bin .FloorDiv (.blt "abs" (.cons (.var 2) .nil)) (.cst (.int 2))) .nil))) .nil) .nil) (.cons (.set 3 (.cst (.int 0))) (.cons (.for_ [4] false (.rng (.cons (.cst (.int 40)) .nil)) (.cons (.set 3 (.bin .Add (.bin .Mult (.var 3) (.cst (.int 142857143))) (.call "_law_mix" mZ (.cons (.var 2) (.cons (.var 4) .nil))))) .nil)) (.cons (.ret (.lst true (.cons (.var 3) .nil))) .nil)))))
noncomputable def sW:List Str:=["box","many","left","digit"]
noncomputable def tD:Ss:=(.cons (.IW [2,3] (.blt "divmod" (.cons (.idx (.var 0) (.cst (.int 0))) (.cons (.var 1) .nil)))) (.cons (.wZ (.var 0) (.cst (.int 0)) (.var 2)) (.cons (.ret (.var 3)) .nil)))
theorem fD {μ:Mem} {n:Nat} {b:Int} (h:gM μ n):gM (bx μ n b) n:=by
 obtain ⟨c,h⟩:=h
 exact ⟨b,by unfold bx; rw [List.getElem?_set_self (List.getElem?_eq_some_iff.mp h).1]⟩
theorem xM {μ:Mem} {b:Int}:gM (μ ++ [.lst [.int b]]) μ.length:=⟨b,by simp⟩
theorem Vf {μ:Mem} {n:Nat} {b c:Int}:bx (bx μ n b) n c=bx μ n c:=by simp [bx]
theorem Sy:Keeps sY tG jM:=by
 intro ds μ Q h
 unfold jM at h
 split at h
 ·obtain ⟨ns,rfl,hl,hk,h⟩:=h
  rename_i k
  simp [tG,sY,aL,iB,wSs,wS,wT,wE,wEs,aV,lenOf,aG,cM,vR,gK]
  by_cases hk2:k < ns.length
  ·have e:wF ns.length k=some k.toNat:=by simp [wF,hk,hk2]
   have h2:k.toNat < ns.length:=by lia
   simp [hk2,nq,aG,e,h2,h]
  ·simp [hk2,h]
 ·exact h.elim
theorem Sw:Keeps sW tD cI:=by
 intro ds μ Q h
 unfold cI at h
 split at h
 ·obtain ⟨⟨b,hb⟩,h0,hm,h⟩:=h
  rename_i n m
  have hc:vN m:=⟨h0,hm⟩
  simp [tD,sW,aL,iB,wSs,wS,wT,wE,wEs,nq,aG,hb,wF,aV,hc,cL,qy]
  exact h _ _ (Int.emod_nonneg _ (by lia)) (Int.emod_lt_of_pos _ h0)
 ·exact h.elim
theorem Xi:Keeps zp zL mZ:=by
 intro ds μ Q h
 unfold mZ at h
 split at h
 ·obtain ⟨h0,hm,h⟩:=h
  rename_i c k
  have e:wF 13 (k % 13)=some (k % 13).toNat:=by
   have q1:0<=k % 13:=by lia
   have q2:k % 13 < 13:=by lia
   simp [wF,q1,q2]
  have hr:=h
  have ZV:(k % 13).toNat < 13:=by lia
  have hz:∃ z:Int,([D.int 48271,.int 69621,.int 16807,.int 39373,.int 30269,.int 40014,.int 40692,.int 50021,.int 61687,.int 71993,.int 83869,.int 95561,.int 30307]:List D)[(k % 13).toNat]? = some (.int z)/\0 < z/\z < 100000:=by
   generalize (k % 13).toNat=j at ZV
   match j,ZV with
   | 0,_=>exact ⟨_,rfl,by decide⟩
   | 1,_=>exact ⟨_,rfl,by decide⟩
   | 2,_=>exact ⟨_,rfl,by decide⟩
   | 3,_=>exact ⟨_,rfl,by decide⟩
   | 4,_=>exact ⟨_,rfl,by decide⟩
   | 5,_=>exact ⟨_,rfl,by decide⟩
   | 6,_=>exact ⟨_,rfl,by decide⟩
   | 7,_=>exact ⟨_,rfl,by decide⟩
   | 8,_=>exact ⟨_,rfl,by decide⟩
   | 9,_=>exact ⟨_,rfl,by decide⟩
   | 10,_=>exact ⟨_,rfl,by decide⟩
   | 11,_=>exact ⟨_,rfl,by decide⟩
   | 12,_=>exact ⟨_,rfl,by decide⟩
  obtain ⟨z,hz,z1,z2⟩:=hz
  simp [zL,zp,aL,iB,wSs,wS,wT,wE,wEs,nq,aG,newL,lim,gO,vN,e]
  rw [hz]
  have m1:vM (c % 2147483647 + 12345) z:=.inr (by lia)
  have m2:vM 977 k:=.inl (by lia)
  have m3:vM 7919 (k / 13):=.inl (by lia)
  have m5:vM 48271 k:=.inl (by lia)
  simp only [m1,m2,m3,m5,true_and]
  generalize hv:((c % 2147483647 + 12345) * z + 977 * k + 7919 * (k / 13)) % 1000000007=v
  have m4:vM v v:=.inl (by lia)
  refine ⟨m4,h _ (by lia) (by lia)⟩
 ·exact h.elim
theorem Xj:Keeps zq zM pA:=by
 intro ds μ Q h
 unfold pA at h
 split at h
 ·obtain ⟨ns,rfl,hl,hk,h⟩:=h
  rename_i k
  simp [zM,zq,aL,iB,wSs,wS,wT,wE,wEs,wI,jM]
  refine ⟨ns,rfl,hl,hk,fun c=>?_⟩
  simp [gO,cM,flat,gK]
  by_cases hc:iw (.int (c % 2)) (.int 0)=true
  ·simp [hc,aV,vN,lim,newL,h]
  ·simp only [hc,if_neg,Bool.false_eq_true,not_false_eq_true,lq,gB]
   refine ⟨by decide,by decide,?_⟩
   refine aU (fun ds ρ μ'=>μ'=μ/\(∀ d∈ds,∃ i:Int,d = .int i/\0<=i/\i < 1000)/\∃ v w,ρ=[some (.ro (ns.map D.int)),some (.int k),some (.int c),some (.int v),w]) ?_ ?_ _ _ _ ⟨rfl,?_,0,none,rfl⟩
   ·rintro d ds ρ μ' N hN ⟨rfl,hd,v,w,rfl⟩
    obtain ⟨i,rfl,i0,i1⟩:=hd d (by simp)
    refine ⟨trivial,?_⟩
    simp [cL,gO,vM,mZ,i0,i1]
    intro r _ _
    exact hN _ _ ⟨rfl,fun d q=>hd d (by simp [q]),_,_,rfl⟩
   ·rintro ρ μ' ⟨rfl,-,v,w,rfl⟩
    refine ⟨trivial,?_⟩
    simp [lim,newL]
    exact h _
   ·intro d hd
    simp only [aM,List.mem_map,List.mem_range] at hd
    obtain ⟨j,hj,rfl⟩:=hd
    exact ⟨_,rfl,by lia,by lia⟩
 ·exact h.elim
end DW
end
section
namespace DW
open PySem
noncomputable def ga (r:List Itm) (p:Nat):Nat:=match r[p]? with | some x=>((r.take p).filter fun y=>Cd x y).length | none=>0
noncomputable def JG (r:List Itm):List Int:=(List.range r.length).map fun p=>(ga r p:Int)
noncomputable def mx:List Int->Int
 | []=>0
 | i :: is=>is.foldl max i
noncomputable def q8 (μ:Mem) (n:Nat):Bool:=match μ[n]? with | some (.cH _ _)=>true | _=>false
theorem XM {μ:Mem} {n:Nat} (h:q8 μ n=true):∃ ks ds,μ[n]? = some (.cH ks ds):=by
 unfold q8 at h
 split at h
 ·rename_i ks ds e; exact ⟨ks,ds,e⟩
 ·cases h
theorem XJ {μ:Mem} {n:Nat} (h:q8 μ n=true):tyOf μ (.loc n)=some "dict":=by
 unfold q8 at h
 simp only [tyOf]
 split at h
 ·rename_i e; rw [e]
 ·cases h
noncomputable def cR:iZ:=fun ds μ Q=>match ds with
 | [.int _]=>Q (.bl true) μ
 | [.loc n]=>q8 μ n=true/\Q (.bl false) μ
 | [.ro _]=>False
 | [.kZ _ _]=>False
 | [_]=>Q (.bl false) μ
 | _=>False
noncomputable def jQ:List Str:=["thing"]
noncomputable def jT:Ss:=(.cons (.ret (.and (.isin (.var 0) "int") (.not (.isin (.var 0) "bool")))) .nil)
theorem Ci:Keeps jQ jT cR:=by
 intro ds μ Q h
 unfold cR at h
 split at h
 ·simpa [jT,jQ,aL,iB,wSs,wS,wE,lM,tyOf,wH,gK] using h
 ·simpa [jT,jQ,aL,iB,wSs,wS,wE,lM,XJ h.1,wH,gK] using h.2
 ·exact h.elim
 ·exact h.elim
 ·rename_i d h1 h2 h3 h4
  cases d with
  | int i=>exact absurd rfl (h1 i)
  | loc i=>exact absurd rfl (h2 i)
  | ro i=>exact absurd rfl (h3 i)
  | kZ i j=>exact absurd rfl (h4 i j)
  | _=>simpa [jT,jQ,aL,iB,wSs,wS,wE,lM,tyOf,wH,gK] using h
 ·exact h.elim
theorem Xx (r:List Itm):∀ i∈JG r,0<=i:=by
 intro i hi
 simp [JG] at hi
 obtain ⟨p,_,rfl⟩:=hi
 lia
end DW
end
section
namespace DW
end DW
end
section
namespace DW
noncomputable def cnt (A:List Itm) (x:Itm):Nat:=(A.filter (Cd x)).length
noncomputable def gf:List Itm->List Itm->List Int
 | _,[]=>[]
 | A,x :: l=>(cnt A x:Int) :: gf (A ++ [x]) l
theorem U7:∀ (l A:List Itm),gf A l=(List.range l.length).map fun p=>(ga (A ++ l) (A.length + p):Int)
 | [],A=>rfl
 | x :: l,A=>by
  have h:=U7 l (A ++ [x])
  rw [gf,h,List.length_cons,List.range_succ_eq_map,List.map_cons,List.map_map]
  congr 1
  ·simp [ga,cnt]
  ·refine List.map_congr_left fun p _=>?_
   simp [Nat.add_assoc,Nat.add_comm 1 p]
theorem Oo (r:List Itm):JG r=gf [] r:=by
 rw [U7]
 simp [JG]
noncomputable def DK (l:List Int):Int:=l.foldr max 0
theorem zu:∀ l:List Int,0<=DK l
 | []=>Int.le_refl _
 | i :: l=>by have:=zu l; show 0<=max i (DK l); lia
theorem uO:∀ a b:List Int,DK (a ++ b)=max (DK a) (DK b)
 | [],b=>by have:=zu b; show DK b=max 0 (DK b); lia
 | i :: a,b=>by
  show max i (DK (a ++ b))=max (max i (DK a)) (DK b)
  rw [uO a b]; lia
theorem CN:∀ (l:List Int) (i:Int),0<=i->l.foldl max i=max i (DK l)
 | [],i,h=>by show i=max i 0; lia
 | j :: l,i,h=>by
  rw [List.foldl_cons,CN l (max i j) (by lia)]
  show max (max i j) (DK l)=max i (max j (DK l)); lia
theorem Zv (l:List Int) (h:∀ i∈l,0<=i):mx l=DK l:=by
 cases l with
 | nil=>rfl
 | cons i l=>exact CN l i (h i (by simp))
theorem Nj (r:List Itm):mx (JG r)=DK (gf [] r):=by rw [Zv _ (Xx r),Oo]
theorem O5 {A B:List Itm} (p:A.Perm B) (x:Itm):cnt A x=cnt B x:=(p.filter _).length_eq
theorem Dl (A:List Itm) (x y:Itm):cnt (A ++ [x]) y=cnt A y + if Cd y x=true then 1 else 0:=by
 unfold cnt
 rw [List.filter_append,List.length_append]
 by_cases h:Cd y x=true
 ·simp [h]
 ·simp [h]
theorem Hs:∀ (l:List Itm) {A B:List Itm},A.Perm B->gf A l=gf B l
 | [],A,B,_=>rfl
 | x :: l,A,B,p=>by rw [gf,gf,O5 p,Hs l (p.append_right [x])]
theorem xQ:∀ (B A C:List Itm),gf A (B ++ C)=gf A B ++ gf (A ++ B) C
 | [],A,C=>by simp [gf]
 | x :: B,A,C=>by simp [gf,xQ B (A ++ [x]) C]
theorem O6 {x y:Itm} (h:Cd x y=true):∀ A:List Itm,cnt A y<=cnt A x
 | []=>Nat.le_refl _
 | z :: A=>by
  have ih:=O6 h A
  unfold cnt at ih ⊢
  by_cases q:Cd y z=true
  ·have q2:Cd x z=true:=by
    cases q3:Cd x z with
    | true=>rfl
    | false =>
     have:=Jr z x y q3 (BZ _ _ h)
     rw [q] at this; cases this
   rw [List.filter_cons_of_pos q,List.filter_cons_of_pos q2,List.length_cons,List.length_cons]
   lia
  ·rw [List.filter_cons_of_neg q]
   by_cases q2:Cd x z=true
   ·rw [List.filter_cons_of_pos q2,List.length_cons]; lia
   ·rw [List.filter_cons_of_neg q2]; exact ih
theorem exchanged (A B:List Itm) (x y:Itm) (h:Cd x y=true) :
  (JG (A ++ y :: x :: B)).sum=(JG (A ++ x :: y :: B)).sum + 1/\mx (JG (A ++ x :: y :: B))<=mx (JG (A ++ y :: x :: B))/\mx (JG (A ++ y :: x :: B)) - 1<=mx (JG (A ++ x :: y :: B))/\1<=mx (JG (A ++ y :: x :: B))/\1<=(JG (A ++ y :: x :: B)).sum:=by
 have e:gf (A ++ [y] ++ [x]) B=gf (A ++ [x] ++ [y]) B:=Hs B (by
  simp only [List.append_assoc]
  exact List.Perm.append_left A (List.Perm.swap x y []))
 have c1:cnt (A ++ [y]) x=cnt A x + 1:=by rw [Dl,if_pos h]
 have c2:cnt (A ++ [x]) y=cnt A y:=by rw [Dl,if_neg (by rw [BZ _ _ h]; simp)]; rfl
 have c3:=O6 h A
 have nn:∀ l A,(0:Int)<=(gf A l).sum:=by
  intro l
  induction l with
  | nil=>intro A; exact Int.le_refl _
  | cons z l ih=>intro A; have:=ih (A ++ [z]); rw [gf,List.sum_cons]; lia
 have n1:=nn A []
 have n2:=nn B (A ++ [x] ++ [y])
 rw [Nj,Nj]
 simp only [Oo,xQ,gf,List.nil_append,c1,c2,e,List.sum_append,List.sum_cons,uO]
 have m1:=zu (gf [] A)
 have m2:=zu (gf (A ++ [x] ++ [y]) B)
 simp only [DK,List.foldr_cons] at m1 m2 ⊢
 lia
end DW
end
section
namespace DW
open PySem
end DW
end
section
namespace DW.Qk
open PySem DW
mutual
theorem CT:∀ (n:Nat) (d:D),flat n d=true->iw d d=true
 | n,.non,_=>rfl
 | n,.bl b,_=>by simp [iw]
 | n,.int i,_=>by simp [iw]
 | n,.str x,_=>by simp [iw]
 | 0,.tup ds,h=>by simp [flat] at h
 | n + 1,.tup ds,h=>by rw [iw]; exact qX n ds (by simpa [flat] using h)
 | 0,.lst ds,h=>by simp [flat] at h
 | n + 1,.lst ds,h=>by rw [iw]; exact qX n ds (by simpa [flat] using h)
 | n,.ro ds,h=>by simp [flat] at h
 | n,.loc ds,h=>by simp [flat] at h
 | n,.cH ks ds,h=>by simp [flat] at h
theorem qX:∀ (n:Nat) (ds:List D),flats n ds=true->wJ ds ds=true
 | n,[],_=>rfl
 | n,d :: ds,h=>by
  simp only [flats,Bool.and_eq_true] at h
  simp [wJ,CT n d h.1,qX n ds h.2]
end
end DW.Qk
end
section
namespace DW
open PySem DW.Qk
end DW
end
section
namespace DW
open PySem
noncomputable def aQ:iZ:=fun ds μ Q=>match ds with
 | [.int _]=>Q (.bl true) μ
 | [.loc n]=>q8 μ n=true/\Q (.bl false) μ
 | [.ro _]=>False
 | [.kZ _ _]=>False
 | [_]=>Q (.bl false) μ
 | _=>False
noncomputable def nZ:List Str:=["thing"]
noncomputable def oE:Ss:=(.cons (.ret (.and (.isin (.var 0) "int") (.not (.isin (.var 0) "bool")))) .nil)
theorem FJ:Keeps nZ oE aQ:=by
 have e:aQ=cR:=rfl
 rw [e]; exact Ci
end DW
end
section
namespace DW
open PySem DW.Qk
structure LL (μ:Mem) (b n:Nat) (ls:List Nat) (rs:List (List Itm)):Prop where
 lo:b<=n
 at_:μ[n]? = some (.lst (ls.map D.loc))
 len:ls.length=rs.length
 sub:∀ l∈ls,b<=l/\l≠n
 row:∀ (i l:Nat) (r:List Itm),ls[i]? = some l->rs[i]? = some r->μ[l]? = some (.lst (r.map itD))
theorem LL.app {μ:Mem} {b n:Nat} {ls:List Nat} {rs:List (List Itm)} (h:LL μ b n ls rs) (ν:Mem):LL (μ ++ ν) b n ls rs :=
 ⟨h.lo,by rw [List.getElem?_append_left (List.getElem?_eq_some_iff.mp h.at_).1]; exact h.at_,h.len,h.sub,fun i l r h1 h2=>by
  have:=h.row i l r h1 h2
  rw [List.getElem?_append_left (List.getElem?_eq_some_iff.mp this).1]; exact this⟩
end DW
end
section
namespace DW
open PySem
theorem Vn {x y:D} {μ:Mem} {Q:QD} (h1:flat 60 x=true) (h2:flat 60 y=true) (h:Q (.bl (!iw x y)) μ):cM .NotEq x y μ Q:=by
 unfold cM
 cases x with
 | loc n=>simp [flat] at h1
 | _=>exact ⟨h1,h2,h⟩
end DW
end
section
namespace DW.Vh
open PySem DW DW.Qk
mutual
noncomputable def Ww:D->List Int
 | .int i=>[i]
 | .tup ds=>kW ds
 | _=>[]
noncomputable def kW:List D->List Int
 | []=>[]
 | d :: ds=>Ww d ++ kW ds
end
mutual
noncomputable def dep:D->Nat
 | .tup ds=>deps ds + 1
 | _=>0
noncomputable def deps:List D->Nat
 | []=>0
 | d :: ds=>max (dep d) (deps ds)
end
noncomputable def Tc (ls:List Int) (i:Int):Int:=(ls[i.toNat]?).getD 0
mutual
noncomputable def Zx (ls:List Int):D->Int
 | .tup ds=>((kW ds).map (Tc ls)).sum + lW ls ds
 | _=>0
noncomputable def lW (ls:List Int):List D->Int
 | []=>0
 | d :: ds=>Zx ls d + lW ls ds
end
noncomputable def mxf:List Int->Int
 | []=>0
 | i :: is=>is.foldl max i
mutual
noncomputable def Zi:D->Int
 | .tup ds=>1 + mxf (Uw ds)
 | _=>0
noncomputable def Uw:List D->List Int
 | []=>[]
 | d :: ds=>Zi d :: Uw ds
end
mutual
noncomputable def plB (m:Nat):D->Bool
 | .int i=>decide (0<=i/\i < (m:Int))
 | .tup ds=>wA m ds && !ds.isEmpty
 | _=>false
noncomputable def wA (m:Nat):List D->Bool
 | []=>true
 | d :: ds=>plB m d && wA m ds
end
noncomputable def jZ:List Str:=["box","most","top"]
noncomputable def j9:Ss:=(.cons (.set 2 (.idx (.lst false (.cons (.cst (.int 4)) (.cons (.cst (.int 10)) (.cons (.cst (.int 100)) (.cons (.bin .Pow (.cst (.int 10)) (.cst (.int 6))) .nil))))) (.call "_law_take" cI (.cons (.var 0) (.cons (.cst (.int 4)) .nil))))) (.cons (.ret (.comp false 1 false [0,2] (.call "_law_take" cI (.cons (.var 1) (.cons (.var 2) .nil))) (.rng (.cons (.bin .Add (.cst (.int 1)) (.call "_law_take" cI (.cons (.var 0) (.cons (.var 1) .nil)))) .nil)) .nil)) .nil))
theorem xq:∀ (as bs:List D),kW (as ++ bs)=kW as ++ kW bs
 | [],bs=>rfl
 | a :: as,bs=>by simp [kW,xq as bs]
end DW.Vh
end
section
namespace DW
open PySem
section
variable {κ:Type} [DecidableEq κ]
theorem qY:∀ {ks:List κ} {ds:List D} {k:κ},k ∉ ks->aH ks ds k=none
 | [],ds,k,_=>by unfold aH; rfl
 | k' :: ks,[],k,_=>by unfold aH; rfl
 | k' :: ks,d :: ds,k,h=>by
  simp only [List.mem_cons,not_or] at h
  unfold aH
  rw [if_neg (Ne.symm h.1)]
  exact qY h.2
theorem vd:∀ {ks:List κ} {ds:List D} {k:κ},ds.length=ks.length->k∈ks->∃ d,aH ks ds k=some d
 | [],ds,k,_,h=>by cases h
 | k' :: ks,[],k,hl,_=>by simp at hl
 | k' :: ks,d :: ds,k,hl,h=>by
  unfold aH
  by_cases c:k'=k
  ·rw [if_pos c]; exact ⟨d,rfl⟩
  ·rw [if_neg c]
   rcases List.mem_cons.mp h with rfl | h
   ·exact absurd rfl c
   ·exact vd (by simpa using hl) h
theorem xW:∀ {ks:List κ} {ds:List D} {k j:κ} {v:D},ds.length=ks.length->k ∉ ks->aH (ks ++ [k]) (ds ++ [v]) j=if j=k then some v else aH ks ds j
 | [],ds,k,j,v,hl,_=>by
  have:ds=[]:=by simpa using hl
  subst this
  simp only [List.nil_append,aH]
  by_cases c:k=j
  ·rw [if_pos c,if_pos c.symm]
  ·rw [if_neg c,if_neg (Ne.symm c)]
 | k' :: ks,[],k,j,v,hl,_=>by simp at hl
 | k' :: ks,d :: ds,k,j,v,hl,h=>by
  simp only [List.mem_cons,not_or] at h
  simp only [List.cons_append,aH]
  by_cases c:k'=j
  ·subst c
   rw [if_pos rfl,if_neg (Ne.symm h.1),if_pos rfl]
  ·rw [if_neg c,if_neg c]
   exact xW (by simpa using hl) h.2
theorem xT : ∀ {ks : List κ} {ds : List D} {k j : κ} {v : D}, ds.length = ks.length -> k ∈ ks -> aH ks (List.zipWith (fun k' d' => if k' = k then v else d') ks ds) j = if j = k then some v else aH ks ds j
  | [], ds, k, j, v, hl, h => by cases h
  | k' :: ks, [], k, j, v, hl, _ => by simp at hl
  | k' :: ks, d :: ds, k, j, v, hl, h => by
    simp only [List.zipWith_cons_cons, aH]
    by_cases c : k' = j
    . subst c
      rw [if_pos rfl]
      by_cases e : k' = k
      . rw [if_pos e, if_pos e]
      . rw [if_neg e, if_neg e, if_pos rfl]
    . rw [if_neg c, if_neg c]
      by_cases hk : k ∈ ks
      . exact xT (by simpa using hl) hk
      . rcases List.mem_cons.mp h with rfl | h
        . rw [if_neg (Ne.symm c)]
          have e : ∀ (ls : List κ) (es : List D), k ∉ ls -> es.length = ls.length -> List.zipWith (fun k' d' => if k' = k then v else d') ls es = es := by
            intro ls
            induction ls with
            | nil => intro es _ h; have : es = [] := by simpa using h
                     subst this; rfl
            | cons l ls ih =>
              intro es hn hl
              cases es with
              | nil => simp at hl
              | cons x es =>
                simp only [List.mem_cons, not_or] at hn
                rw [List.zipWith_cons_cons, if_neg (Ne.symm hn.1), ih es hn.2 (by simpa using hl)]
          rw [e ks ds hk (by simpa using hl)]
        . exact absurd h hk
theorem xU {ks:List κ} {ds:List D} {k j:κ} {v:D} (hl:ds.length=ks.length):aH (cB ks k) (dw ks ds k v) j=if j=k then some v else aH ks ds j:=by
 unfold cB dw
 by_cases h:k∈ks
 ·rw [if_pos h,if_pos h]; exact xT hl h
 ·rw [if_neg h,if_neg h]; exact xW hl h
theorem CZ {ks:List κ} {ds:List D} {k:κ} {v:D} (hl:ds.length=ks.length):(dw ks ds k v).length=(cB ks k).length:=by
 unfold cB dw
 by_cases h:k∈ks
 ·rw [if_pos h,if_pos h]; simp [hl]
 ·rw [if_neg h,if_neg h]; simp [hl]
theorem u9 {ks:List κ} {k:κ}:(cB ks k).length<=ks.length + 1:=by
 unfold cB
 split <;> simp
end
noncomputable def d7 (ks:List aC) (ds:List D) (F:Int->Option D):Prop:=∃ is:List Int,ks=is.map Sum.inl/\is.Nodup/\ds.length=is.length/\∀ e,aH ks ds (.inl e)=F e
theorem j8 {is:List Int} {e:Int}:(Sum.inl e:aC)∈is.map Sum.inl<->e∈is:=by simp
theorem d7.jN {is:List Int} {ds:List D} {F:Int->Option D} (hl:ds.length=is.length) (h:∀ e,aH (is.map (Sum.inl:Int->aC)) ds (.inl e)=F e) (e:Int):e∈is<->F e≠none:=by
 constructor
 ·intro hm
  obtain ⟨d,hd⟩:=vd (ks:=is.map (Sum.inl:Int->aC)) (ds:=ds) (by simpa using hl) (j8.mpr hm)
  rw [<- h,hd]; simp
 ·intro hn
  by_cases hm:e∈is
  ·exact hm
  ·exact absurd ((h e).symm.trans (qY (fun z=>hm (j8.mp z)))) hn
theorem d7.has {ks:List aC} {ds:List D} {F:Int->Option D} (h:d7 ks ds F) (e:Int):uY ks (.inl e)=(F e).isSome:=by
 obtain ⟨is,rfl,_,hl,hf⟩:=h
 have:=d7.jN hl hf e
 rw [Bool.eq_iff_iff,mF,j8,this]
 cases F e <;> simp
theorem d7.put {ks:List aC} {ds:List D} {F:Int->Option D} (h:d7 ks ds F) (e:Int) (v:D):d7 (cB ks (.inl e)) (dw ks ds (.inl e) v) (fun x=>if x=e then some v else F x):=by
 obtain ⟨is,rfl,nd,hl,hf⟩:=h
 have hl':ds.length=(is.map (Sum.inl:Int->aC)).length:=by simpa using hl
 refine ⟨if e∈is then is else is ++ [e],?_,?_,?_,fun x=>?_⟩
 ·unfold cB
  by_cases hm:e∈is
  ·rw [if_pos hm,if_pos (j8.mpr hm)]
  ·rw [if_neg hm,if_neg (fun z=>hm (j8.mp z)),List.map_append]; rfl
 ·by_cases hm:e∈is
  ·rw [if_pos hm]; exact nd
  ·rw [if_neg hm,List.nodup_append]
   exact ⟨nd,by simp,fun a ha b hb=>by
    have:b=e:=by simpa using hb
    subst this
    rintro rfl
    exact hm ha⟩
 ·rw [CZ hl']
  unfold cB
  by_cases hm:e∈is
  ·rw [if_pos hm,if_pos (j8.mpr hm)]; simp
  ·rw [if_neg hm,if_neg (fun z=>hm (j8.mp z))]; simp
 ·rw [xU hl',hf]
  show _=if x=e then some v else F x
  by_cases c:x=e
  ·rw [if_pos c,if_pos (by rw [c])]
  ·rw [if_neg c,if_neg (fun z=>c (Sum.inl.inj z))]
theorem d7.one (k:Int) (v:D):d7 [.inl k] [v] (fun e=>if e=k then some v else none):=by
 refine ⟨[k],rfl,by simp,rfl,fun e=>?_⟩
 simp only [aH]
 by_cases c:e=k
 ·rw [if_pos c,if_pos (by rw [c])]
 ·rw [if_neg c,if_neg (fun z=>c (Sum.inl.inj z).symm)]
theorem oU:∀ (m:Nat) (l:List Int),l.Nodup->(∀ i∈l,0<=i/\i < (m:Int))->l.length<=m
 | 0,l,_,h=>by
  cases l with
  | nil=>simp
  | cons i l=>have:=h i (by simp); lia
 | m + 1,l,hn,h=>by
  by_cases c:(m:Int)∈l
  ·have:=oU m (l.erase (m:Int)) (hn.erase _) fun i hi=>by
    have h1:=h i (List.mem_of_mem_erase hi)
    have h2:i≠(m:Int):=fun e=>by
     subst e
     exact (List.Nodup.mem_erase_iff hn).mp hi |>.1 rfl
    exact ⟨h1.1,by push_cast at h1; lia⟩
   rw [List.length_erase_of_mem c] at this
   lia
  ·have:=oU m l hn fun i hi=>by
    have h1:=h i hi
    have h2:i≠(m:Int):=fun e=>c (e ▸ hi)
    exact ⟨h1.1,by push_cast at h1; lia⟩
   lia
noncomputable def P2 (ks:List (List aC)):Prop:=ks.Nodup/\∀ k∈ks,∃ a b:Int,k=[.inl a,.inl b]
theorem P2.put {ks:List (List aC)} (h:P2 ks) (a b:Int):P2 (cB ks [.inl a,.inl b]):=by
 unfold cB
 split
 ·exact h
 ·rename_i c
  refine ⟨List.nodup_append.mpr ⟨h.1,by simp,fun x hx y hy e=>?_⟩,fun k hk=>?_⟩
  ·subst e
   rw [List.mem_singleton] at hy
   exact c (hy ▸ hx)
  ·rcases List.mem_append.mp hk with z | z
   ·exact h.2 k z
   ·exact ⟨a,b,List.mem_singleton.mp z⟩
noncomputable def cV (ks:List (List aC)) (ds:List D) (G:Int->Int->Option D):Prop:=(ds.length=ks.length/\P2 ks)/\∀ a b,aH ks ds [.inl a,.inl b]=G a b
theorem cV.nil:cV [] [] (fun _ _=>none):=⟨⟨rfl,by simp,by simp⟩,fun a b=>rfl⟩
theorem cV.has {ks:List (List aC)} {ds:List D} {G:Int->Int->Option D} (h:cV ks ds G) (a b:Int):uY ks [.inl a,.inl b]=(G a b).isSome:=by
 obtain ⟨⟨hl,hp⟩,hf⟩:=h
 rw [Bool.eq_iff_iff,mF,<- hf]
 constructor
 ·intro hm
  obtain ⟨d,hd⟩:=vd hl hm
  rw [hd]; rfl
 ·intro hs
  by_cases hm:[Sum.inl a,Sum.inl b]∈ks
  ·exact hm
  ·rw [qY hm] at hs; cases hs
theorem cV.put {ks:List (List aC)} {ds:List D} {G:Int->Int->Option D} (h:cV ks ds G) (a b:Int) (v:D):cV (cB ks [.inl a,.inl b]) (dw ks ds [.inl a,.inl b] v) (fun x y=>if x=a/\y=b then some v else G x y):=by
 obtain ⟨⟨hl,hp⟩,hf⟩:=h
 refine ⟨⟨CZ hl,hp.put a b⟩,fun x y=>?_⟩
 rw [xU hl,hf]
 show _=if x=a/\y=b then some v else G x y
 by_cases c:x=a/\y=b
 ·rw [if_pos c,if_pos (by rw [c.1,c.2])]
 ·rw [if_neg c,if_neg (fun z=>c (by simpa using z))]
end DW
end
section
namespace DW.Yw
open PySem DW DW.Qk DW.Vh
mutual
noncomputable def wdB (w:Nat):D->Bool
 | .tup ds=>vW w ds && decide (2<=ds.length/\ds.length<=w)
 | _=>true
noncomputable def vW (w:Nat):List D->Bool
 | []=>true
 | d :: ds=>wdB w d && vW w ds
end
noncomputable def chunk (w:Nat):Nat->List D->List (List D)
 | 0,_=>[]
 | k + 1,ps=>ps.take w :: chunk w k (ps.drop w)
noncomputable def mk (part:List D):D:=if 1 < part.length then .tup part else part.headD .non
noncomputable def cnt (n w:Nat):Nat:=(abj 0 (n:Int) (w:Int)).toNat
noncomputable def one (w:Nat) (ps:List D):List D:=(chunk w (cnt ps.length w) ps).map mk
noncomputable def abk (m:Nat):List Int:=(List.range m).map fun (k:Nat)=>(k:Int)
noncomputable def Fin (m w:Nat) (d:D):Prop:=∃ j:Nat,plB m d=true/\wdB w d=true/\dep d<=j/\Ww d=abk m/\Zi d=(j:Int)/\m<=w ^ j/\∀ i,i < j->w ^ i < m
theorem Fin.le {m w:Nat} {d:D} (h:Fin m w d) (hw:2<=w) (h60:m<=60):dep d<=6:=by
 obtain ⟨j,_,_,h1,_,_,_,h2⟩:=h
 rcases Nat.lt_or_ge 6 j with q | q
 ·have:=h2 6 q
  have h3:2 ^ 6<=w ^ 6:=Nat.pow_le_pow_left hw 6
  lia
 ·lia
theorem Bt {m:Nat}:∀ (as bs:List D),wA m (as ++ bs)=(wA m as && wA m bs)
 | [],bs=>rfl
 | a :: as,bs=>by rw [List.cons_append,wA,wA,Bt as bs,Bool.and_assoc]
theorem Ak {m:Nat}:∀ (as bs:List D),vW m (as ++ bs)=(vW m as && vW m bs)
 | [],bs=>rfl
 | a :: as,bs=>by rw [List.cons_append,vW,vW,Ak as bs,Bool.and_assoc]
end DW.Yw
end
section
namespace DW.TBL
open PySem DW DW.Qk DW.Vh DW.Yw
noncomputable abbrev SF:=Int->Option Int
noncomputable abbrev TF:=Int->Int->Option Int
structure Qh (R:SF) (K:TF) (b:Int) (F:SF):Prop where
 old:∀ e r,R e=some r->∃ s,F e=some s/\s<=r
 via:∀ a e r t,R a=some r->K a e=some t->a < e->e<=b->∃ s,F e=some s/\s<=r + t
 src:∀ e s,F e=some s->R e=some s∨∃ a r t,R a=some r/\K a e=some t/\a < e/\e<=b/\s=r + t
theorem Qh.le {R:SF} {K:TF} {b:Int} {F G:SF} (hF:Qh R K b F) (hG:Qh R K b G) {e s:Int} (h:F e=some s):∃ s',G e=some s'/\s'<=s:=by
 rcases hF.src e s h with h | ⟨a,r,t,h1,h2,h3,h4,rfl⟩
 ·exact hG.old e s h
 ·exact hG.via a e r t h1 h2 h3 h4
theorem Qh.uniq {R:SF} {K:TF} {b:Int} {F G:SF} (hF:Qh R K b F) (hG:Qh R K b G):F=G:=by
 funext e
 cases h:F e with
 | none =>
  cases g:G e with
  | none=>rfl
  | some s=>obtain ⟨s',h',_⟩:=hG.le hF g; rw [h] at h'; cases h'
 | some s =>
  obtain ⟨s',g,l1⟩:=hF.le hG h
  obtain ⟨s'',h',l2⟩:=hG.le hF g
  rw [h] at h'; cases h'
  rw [g]; congr 1; lia
structure tK (R:SF) (K:TF) (b:Int) (P:Int->Int->Prop) (F:SF):Prop where
 old:∀ e r,R e=some r->∃ s,F e=some s/\s<=r
 via:∀ a e r t,P a e->R a=some r->K a e=some t->∃ s,F e=some s/\s<=r + t
 src:∀ e s,F e=some s->R e=some s∨∃ a r t,R a=some r/\K a e=some t/\a < e/\e<=b/\s=r + t
section
variable {R:SF} {K:TF} {b:Int} {P P':Int->Int->Prop} {F:SF}
theorem tK.start:tK R K b (fun _ _=>False) R:=⟨fun e r h=>⟨r,h,Int.le_refl _⟩,fun _ _ _ _ h=>h.elim,fun e s h=>.inl h⟩
theorem tK.weak (h:tK R K b P F) (w:∀ a e r t,P' a e->R a=some r->K a e=some t->P a e):tK R K b P' F:=⟨h.old,fun a e r t p h1 h2=>h.via a e r t (w a e r t p h1 h2) h1 h2,h.src⟩
theorem tK.done (h:tK R K b P F) (w:∀ a e r,R a=some r->a < e->e<=b->P a e):Qh R K b F:=⟨h.old,fun a e r t h1 h2 h3 h4=>h.via a e r t (w a e r h1 h3 h4) h1 h2,h.src⟩
theorem tK.skip {a e r t s:Int} (h:tK R K b P F) (hr:R a=some r) (ht:K a e=some t) (hs:F e=some s) (hl:s<=r + t):tK R K b (fun x y=>P x y∨(x=a/\y=e)) F :=
 ⟨h.old,(fun x y r' t' p h1 h2=>by
  rcases p with p | ⟨rfl,rfl⟩
  ·exact h.via x y r' t' p h1 h2
  ·rw [hr] at h1; rw [ht] at h2; cases h1; cases h2; exact ⟨s,hs,hl⟩),h.src⟩
theorem tK.none {a e:Int} (h:tK R K b P F) (ht:K a e=none):tK R K b (fun x y=>P x y∨(x=a/\y=e)) F :=
 ⟨h.old,(fun x y r' t' p h1 h2=>by
  rcases p with p | ⟨rfl,rfl⟩
  ·exact h.via x y r' t' p h1 h2
  ·rw [ht] at h2; cases h2),h.src⟩
theorem tK.put {a e r t:Int} (h:tK R K b P F) (hr:R a=some r) (ht:K a e=some t) (h1:a < e) (h2:e<=b) (hs:∀ s,F e=some s->r + t < s) :
  tK R K b (fun x y=>P x y∨(x=a/\y=e)) (fun x=>if x=e then some (r + t) else F x):=by
 have low:∀ x s,F x=some s->∃ s',(if x=e then some (r + t) else F x)=some s'/\s'<=s:=fun x s q=>by
  by_cases c:x=e
  ·subst c; rw [if_pos rfl]; exact ⟨_,rfl,by have:=hs s q; lia⟩
  ·rw [if_neg c]; exact ⟨s,q,Int.le_refl _⟩
 refine ⟨fun x r' q=>?_,fun x y r' t' p q1 q2=>?_,fun x s q=>?_⟩
 ·obtain ⟨s,q1,q2⟩:=h.old x r' q
  obtain ⟨s',q3,q4⟩:=low x s q1
  exact ⟨s',q3,by lia⟩
 ·rcases p with p | ⟨rfl,rfl⟩
  ·obtain ⟨s,q3,q4⟩:=h.via x y r' t' p q1 q2
   obtain ⟨s',q5,q6⟩:=low y s q3
   exact ⟨s',q5,by lia⟩
  ·rw [hr] at q1; rw [ht] at q2; cases q1; cases q2
   exact ⟨r + t,if_pos rfl,Int.le_refl _⟩
 ·by_cases c:x=e
  ·subst c
   rw [if_pos rfl] at q; cases q
   exact .inr ⟨a,r,t,hr,ht,h1,h2,rfl⟩
  ·rw [if_neg c] at q; exact h.src x s q
end
theorem Bq {lo:Int} {m:Nat}:aM lo (m + 1) = .int lo :: aM (lo + 1) m:=by
 unfold aM
 rw [List.range_succ_eq_map,List.map_cons,List.map_map]
 refine congr (congrArg List.cons (by simp)) (List.map_congr_left fun k _=>?_)
 simp only [Function.comp_apply,Nat.succ_eq_add_one]
 congr 1
 push_cast
 lia
theorem iK {lo hi:Int} {j:Nat} {d:D} {ds:List D} (h:d :: ds=aM (lo + j) (hi - lo - j).toNat):d = .int (lo + j)/\lo + j < hi/\ds=aM (lo + (j + 1:Nat)) (hi - lo - (j + 1:Nat)).toNat:=by
 cases q:(hi - lo - (j:Int)).toNat with
 | zero=>rw [q] at h; simp [aM] at h
 | succ m =>
  rw [q,Bq] at h
  cases h
  refine ⟨rfl,by lia,?_⟩
  have e1:lo + (j:Int) + 1=lo + ((j + 1:Nat):Int):=by push_cast; lia
  have e2:(hi - lo - ((j + 1:Nat):Int)).toNat=m:=by push_cast; lia
  rw [e1,e2]
theorem fM {lo hi:Int} {j:Nat} (h:[]=aM (lo + j) (hi - lo - j).toNat):hi<=lo + j:=by
 have:=congrArg List.length h
 simp [aM] at this
 lia
noncomputable def jf (R:SF):Int->Option D:=fun e=>(R e).map D.int
noncomputable def gZ (K:TF):Int->Int->Option D:=fun a b=>(K a b).map D.int
theorem pB {μ:Mem} {n:Nat} {c d:Cell} (h:μ[n]? = some d):(μ ++ [c])[n]? = some d:=by
 have hl:n < μ.length:=(List.getElem?_eq_some_iff.mp h).1
 rw [List.getElem?_append_left hl]; exact h
theorem cT {μ:Mem} {c:Cell}:(μ ++ [c])[μ.length]? = some c:=by simp
theorem jO {μ:Mem} {c d:Cell}:(μ ++ [c]).set μ.length d=μ ++ [d]:=by simp
noncomputable def pq:iZ:=fun ds μ Q=>∃ (ks:List aC) (vs:List D) (n:Nat) (b:Nat) (R:SF) (ks':List (List aC)) (vs':List D) (K:TF),ds=[.kZ ks vs,.loc n,.int (b:Int)]/\d7 ks vs (jf R)/\μ[n]? = some (.bW ks' vs')/\cV ks' vs' (gZ K)/\b<=60 /\
 (∀ e r,R e=some r->0<=e/\e<=b)/\(∀ a e r t,R a=some r->K a e=some t->a < e->e<=b->r + t < 10 ^ 12) /\
 ∀ DQ vs2 F ν,d7 DQ vs2 (jf F)->Qh R K b F->(∀ e r,F e=some r->0<=e/\e<=b)->Q (.kZ DQ vs2) (μ ++ ν)
noncomputable def sX:List Str:=["best","found","behind","more","at","end","total"]
noncomputable def tE:Ss:=(.cons (.set 3 (.blt "dict" (.cons (.var 0) .nil))) (.cons (.for_ [4] false (.seq (.var 0)) (.cons (.for_ [5] false (.rng (.cons (.bin .Add (.var 4) (.cst (.int 1))) (.cons (.bin .Add (.var 2) (.cst (.int 1))) .nil))) (.cons (.ite (.cmp .In (.tup (.cons (.var 4) (.cons (.var 5) .nil))) (.var 1)) (.cons (.set 6 (.bin .Add (.qd (.var 0) (.var 4)) (.qd (.var 1) (.tup (.cons (.var 4) (.cons (.var 5) .nil)))))) (.cons (.ite (.cmp .Lt (.var 6) (.Qa "get" (.var 3) (.cons (.var 5) (.cons (.bin .Pow (.cst (.int 10)) (.cst (.int 12))) .nil)))) (.cons (.dput (.var 3) (.var 5) (.var 6)) .nil) .nil) .nil)) .nil) .nil)) .nil)) (.cons (.ret (.bK (.var 3))) .nil)))
theorem d7.len {ks:List aC} {ds:List D} {F:Int->Option D} {b:Nat} (h:d7 ks ds F) (hb:∀ e d,F e=some d->0<=e/\e<=(b:Int)):ks.length<=b + 1:=by
 obtain ⟨is,rfl,nd,hl,hf⟩:=h
 have:=oU (b + 1) is nd fun e he=>by
  have hn:=(d7.jN hl hf e).mp he
  cases q:F e with
  | none=>exact absurd q hn
  | some d=>have:=hb e d q; push_cast; lia
 simpa using this
theorem JD {F:SF} {e:Int} {d:D} (h:jf F e=some d):∃ s,F e=some s/\d = .int s:=by
 unfold jf at h
 cases q:F e with
 | none=>rw [q] at h; cases h
 | some s=>rw [q] at h; cases h; exact ⟨s,rfl,rfl⟩
theorem Sx : Keeps sX tE pq := by
  rintro ds μ Q ⟨ks, vs, n, b, R, ks', vs', K, rfl, hD, hn, hT, hb, hR, hbd, h⟩
  obtain ⟨is, rfl, nd, hl, hf⟩ := id hD
  simp only [tE, sX, aL, iB, wSs, wS, wE, wEs, wI, aV, Qp, Am, List.map_cons, List.map_nil, List.length_cons, List.length_nil, List.cons_append, List.nil_append, List.getElem?_cons_zero, List.getElem?_cons_succ, Nat.reduceAdd, Nat.reduceSub, List.replicate, List.set]
  refine ⟨is, rfl, ?_⟩
  refine aU (fun ds ρ μ' => ∃ pre post fk fv F v4 v5 v6, is = pre ++ post /\ ds = post.map D.int /\ ρ = [some (.kZ (is.map Sum.inl) vs), some (.loc n), some (.int (b : Int)), some (.loc μ.length), v4, v5, v6] /\ μ' = μ ++ [.cH fk fv] /\ d7 fk fv (jf F) /\ tK R K b (fun x y => x ∈ pre /\ x < y /\ y <= (b : Int)) F /\ ∀ e r, F e = some r -> 0 <= e /\ e <= (b : Int)) ?_ ?_ _ _ _
    ⟨[], is, _, _, R, _, _, _, rfl, rfl, rfl, rfl, hD, tK.start.weak fun _ _ _ _ p => absurd p.1 (by simp), hR⟩
  . rintro d ds ρ μ' N hN ⟨pre, post, fk, fv, F, v4, v5, v6, e1, e2, rfl, rfl, hF, hP, hB⟩
    cases post with
    | nil => cases e2
    | cons a post =>
      simp only [List.map_cons, List.cons.injEq] at e2
      obtain ⟨rfl, rfl⟩ := e2
      refine ⟨trivial, ?_⟩
      have ham : a ∈ is := by rw [e1]; simp
      have hra : ∃ r, R a = some r := by
        have := (d7.jN hl hf a).mp ham
        unfold jf at this
        cases q : R a with
        | none => rw [q] at this; exact absurd rfl this
        | some r => exact ⟨r, rfl⟩
      obtain ⟨r, hr⟩ := hra
      have ha := hR a r hr
      have hka : aH (is.map (Sum.inl : Int -> aC)) vs (.inl a) = some (.int r) := by rw [hf]; simp [jf, hr]
      simp only [cL, wSs, wS, wE, wEs, wI, gO, gB, lq, List.set, List.getElem?_cons_zero, List.getElem?_cons_succ, List.length_cons, List.length_nil]
      refine ⟨⟨by simp only [lim]; lia, by lia, by lia, by lia, by lia⟩, ?_⟩
      refine aU (fun ds ρ μ' => ∃ (j : Nat) (fk : List aC) (fv : List D) (F : SF) (v5 v6 : Option D), ds = aM (a + 1 + j) ((b : Int) + 1 - (a + 1) - j).toNat /\ ρ = [some (.kZ (is.map Sum.inl) vs), some (.loc n), some (.int (b : Int)), some (.loc μ.length), some (.int a), v5, v6] /\ μ' = μ ++ [.cH fk fv] /\ d7 fk fv (jf F) /\
          tK R K b (fun x y => (x ∈ pre /\ x < y /\ y <= (b : Int)) ∨ (x = a /\ x < y /\ y < a + 1 + j)) F /\ ∀ e r, F e = some r -> 0 <= e /\ e <= (b : Int)) ?_ ?_ _ _ _
        ⟨0, fk, fv, F, v5, v6, by simp, rfl, rfl, hF, hP.weak fun x y _ _ p _ _ => by rcases p with p | ⟨rfl, p, q⟩; exact p; lia, hB⟩
      . rintro d ds ρ μ' N' hN' ⟨j, fk, fv, F, v5, v6, e3, rfl, rfl, hF, hP, hB⟩
        refine ⟨trivial, ?_⟩
        obtain ⟨rfl, hj, rfl⟩ := iK e3
        generalize he : a + 1 + (j : Int) = e at *
        have nxt : ∀ fk fv (F : SF) v6, d7 fk fv (jf F) -> tK R K b (fun x y => ((x ∈ pre /\ x < y /\ y <= (b : Int)) ∨ (x = a /\ x < y /\ y < e)) ∨ (x = a /\ y = e)) F -> (∀ e r, F e = some r -> 0 <= e /\ e <= (b : Int)) ->
            N' [some (.kZ (is.map Sum.inl) vs), some (.loc n), some (.int (b : Int)), some (.loc μ.length), some (.int a), some (.int e), v6] (μ ++ [.cH fk fv]) := fun fk fv F v6 q1 q2 q3 =>
          hN' _ _ ⟨j + 1, fk, fv, F, _, v6, rfl, rfl, rfl, q1, q2.weak fun x y _ _ p _ _ => by
            rcases p with p | ⟨p1, p2, p3⟩
            . exact .inl (.inl p)
            . by_cases c : y = e
              . exact .inr ⟨p1, c⟩
              . exact .inl (.inr ⟨p1, p2, by push_cast at p3; lia⟩), q3⟩
        have hkey : fB [D.int a, D.int e] = some [.inl a, .inl e] := rfl
        have hlim : ([D.int a, D.int e].length <= lim) = True := by simp [lim]
        have hdl : ∀ x, aH fk fv (.inl x) = jf F x := by obtain ⟨_, _, _, _, q⟩ := hF; exact q
        have hin : uY ks' [.inl a, .inl e] = (K a e).isSome := by rw [hT.has]; simp [gZ]
        simp only [cL, wSs, wS, wT, wE, wEs, cM, aG, pB hn, Ao, hkey, List.set, List.getElem?_cons_zero, List.getElem?_cons_succ, hin, gK, jW, truth, Bool.false_bne, hlim, true_and]
        cases hk : K a e with
        | none =>
          simp only [Option.isSome_none, Bool.false_eq_true, if_false]
          exact nxt _ _ _ _ hF (hP.none hk) hB
        | some t =>
          have hkt : aH ks' vs' [.inl a, .inl e] = some (.int t) := by rw [hT.2]; simp [gZ, hk]
          have hlt := hbd a e r t hr hk (by lia) (by lia)
          have h10 : ((10 : Int) ^ ((12 : Int).toNat)) = 1000000000000 := by decide
          simp only [Option.isSome_some, if_true, rE, je, hka, hkt, pB hn, hkey, gO, List.set, List.getElem?_cons_zero, List.getElem?_cons_succ, zG, Jy, cT, qx, Qo, String.reduceEq, if_false, or_false, true_or, true_and, H9, vR, hlim, hdl, h10]
          refine ⟨by simp [lim], ⟨by decide, by decide, by decide⟩, ?_⟩
          have put : (∀ s, F e = some s -> r + t < s) -> fk.length < lim /\ N' [some (.kZ (is.map Sum.inl) vs), some (.loc n), some (.int (b : Int)), some (.loc μ.length), some (.int a), some (.int e), some (.int (r + t))] ((μ ++ [Cell.cH fk fv]).set μ.length (Cell.cH (cB fk (.inl e)) (dw fk fv (.inl e) (.int (r + t))))) := fun hs => by
            have := d7.len hF (b := b) fun x d q => by obtain ⟨s, q1, _⟩ := JD q; exact hB x s q1
            refine ⟨by simp only [lim]; lia, ?_⟩
            rw [jO]
            refine nxt _ _ (fun x => if x = e then some (r + t) else F x) _ ?_ (hP.put hr hk (by lia) (by lia) hs) fun x s q => ?_
            . have e5 : jf (fun x => if x = e then some (r + t) else F x) = fun x => if x = e then some (.int (r + t)) else jf F x := by
                funext x
                unfold jf
                by_cases c : x = e
                . simp [c]
                . simp [c]
              rw [e5]
              exact hF.put e _
            . by_cases c : x = e
              . subst c; lia
              . rw [if_neg c] at q; exact hB x s q
          cases hs : F e with
          | none =>
            have e6 : jf F e = none := by simp [jf, hs]
            have h12 : r + t < 1000000000000 := by have e9 : (10 : Int) ^ 12 = 1000000000000 := by decide
                                                   lia
            simp only [e6, Option.getD_none, vR, decide_eq_true h12, if_true, jH, cT, je]
            exact put fun s q => by rw [hs] at q; cases q
          | some s =>
            have e6 : jf F e = some (.int s) := by simp [jf, hs]
            simp only [e6, Option.getD_some, vR]
            by_cases c : r + t < s
            . simp only [decide_eq_true c, if_true, jH, cT, je]
              exact put fun s' q => by rw [hs] at q; cases q; exact c
            . simp only [decide_eq_false c, Bool.false_eq_true, if_false]
              exact nxt _ _ _ _ hF (hP.skip hr hk hs (by lia)) hB
      . rintro ρ μ' ⟨j, fk, fv, F, v5, v6, e3, rfl, rfl, hF, hP, hB⟩
        have hj := fM e3
        refine ⟨trivial, hN _ _ ⟨pre ++ [a], post, fk, fv, F, _, _, _, by rw [e1]; simp, rfl, rfl, rfl, hF, hP.weak fun x y _ _ p _ _ => ?_, hB⟩⟩
        obtain ⟨p1, p2, p3⟩ := p
        rcases List.mem_append.mp p1 with p1 | p1
        . exact .inl ⟨p1, p2, p3⟩
        . have : x = a := by simpa using p1
          exact .inr ⟨this, p2, by lia⟩
  . rintro ρ μ' ⟨pre, post, fk, fv, F, v4, v5, v6, e1, e2, rfl, rfl, hF, hP, hB⟩
    have hp : post = [] := by simpa using e2.symm
    subst hp
    rw [List.append_nil] at e1
    subst e1
    refine ⟨trivial, ?_⟩
    simp only [yh, cT, jO, List.getElem?_cons_zero, List.getElem?_cons_succ]
    refine h fk fv F [.gone] hF (hP.done fun x y r hr h1 h2 => ⟨(d7.jN hl hf x).mpr ?_, h1, h2⟩) hB
    simp [jf, hr]
noncomputable abbrev PR:=Int->Option (Int×List D)
noncomputable abbrev KP:=Int->Int->Option (Int×D)
noncomputable def pv (x:Int×List D):D:=.tup [.int x.1,.tup x.2]
noncomputable def kv (x:Int×D):D:=.tup [.int x.1,x.2]
noncomputable def vQ (R:PR):Int->Option D:=fun e=>(R e).map pv
noncomputable def DP (K:KP):Int->Int->Option D:=fun a b=>(K a b).map kv
noncomputable def vU (R:PR):SF:=fun e=>(R e).map (·.1)
noncomputable def rJ (K:KP):TF:=fun a b=>(K a b).map (·.1)
theorem CK {R:PR} {e:Int} {x:Int×List D} (h:R e=some x):vU R e=some x.1:=by simp [vU,h]
theorem pZ {K:KP} {a e:Int} {x:Int×D} (h:K a e=some x):rJ K a e=some x.1:=by simp [rJ,h]
theorem Ou {R:PR} {e s:Int} (h:vU R e=some s):∃ x,R e=some x/\x.1=s:=by
 unfold vU at h
 cases q:R e with
 | none=>rw [q] at h; cases h
 | some x=>rw [q] at h; cases h; exact ⟨x,rfl,rfl⟩
theorem Wc {R:PR} {e:Int} {d:D} (h:vQ R e=some d):∃ x,R e=some x/\d=pv x:=by
 unfold vQ at h
 cases q:R e with
 | none=>rw [q] at h; cases h
 | some x=>rw [q] at h; cases h; exact ⟨x,rfl,rfl⟩
noncomputable def Src (R:PR) (K:KP) (b:Int) (F:PR):Prop:=∀ e x,F e=some x->R e=some x∨∃ a y z,R a=some y/\K a e=some z/\a < e/\e<=b/\x=(y.1 + z.1,y.2 ++ [z.2])
noncomputable def st1 (ks':List (List aC)) (vs':List D) (r:Int) (ps:List D) (a e:Int) (X:List aC×List D):List aC×List D :=
 match aH ks' vs' [.inl a,.inl e] with
 | some (.tup [.int t,p])=>if (match aH X.1 X.2 (.inl e) with | some (.tup (.int s :: _))=>decide (r + t < s) | _=>true)=true then (cB X.1 (.inl e),dw X.1 X.2 (.inl e) (.tup [.int (r + t),.tup (ps ++ [p])])) else X
 | _=>X
noncomputable def stA (ks':List (List aC)) (vs':List D) (ks:List aC) (vs:List D) (b a:Int) (X:List aC×List D):List aC×List D :=
 match aH ks vs (.inl a) with
 | some (.tup [.int r,.tup ps])=>(List.range (b + 1 - (a + 1)).toNat).foldl (fun X (k:Nat)=>st1 ks' vs' r ps a (a + 1 + k) X) X
 | _=>X
noncomputable def ZG:aC->Int
 | .inl i=>i
 | .inr _=>0
noncomputable def stD (ks':List (List aC)) (vs':List D) (b:Int) (Y:List aC×List D):List aC×List D:=(Y.1.map ZG).foldl (fun X a=>stA ks' vs' Y.1 Y.2 b a X) Y
noncomputable def bD:iZ:=fun ds μ Q=>∃ (ks:List aC) (vs:List D) (n:Nat) (b:Nat) (R:PR) (ks':List (List aC)) (vs':List D) (K:KP),ds=[.kZ ks vs,.int (b:Int),.loc n]/\d7 ks vs (vQ R)/\μ[n]? = some (.bW ks' vs')/\cV ks' vs' (DP K)/\b<=60 /\
 (∀ e r,R e=some r->(0<=e/\e<=b)/\r.2.length<=60) /\
 ∀ DQ vs2 F ν,(DQ,vs2)=stD ks' vs' b (ks,vs)->d7 DQ vs2 (vQ F)->Qh (vU R) (rJ K) b (vU F)->Src R K b F->(∀ e r,F e=some r->0<=e/\e<=b)->Q (.kZ DQ vs2) (μ ++ ν)
noncomputable def bQ:List Str:=["reached","behind","known","further","place","end","stretch","sum_there"]
noncomputable def bT:Ss:=(.cons (.set 3 (.blt "dict" (.cons (.var 0) .nil))) (.cons (.for_ [4] false (.seq (.var 0)) (.cons (.for_ [5] false (.rng (.cons (.bin .Add (.var 4) (.cst (.int 1))) (.cons (.bin .Add (.var 1) (.cst (.int 1))) .nil))) (.cons (.ite (.cmp .In (.tup (.cons (.var 4) (.cons (.var 5) .nil))) (.var 2)) (.cons (.set 6 (.qd (.var 2) (.tup (.cons (.var 4) (.cons (.var 5) .nil))))) (.cons (.set 7 (.bin .Add (.idx (.qd (.var 0) (.var 4)) (.cst (.int 0))) (.idx (.var 6) (.cst (.int 0))))) (.cons (.ite (.or (.cmp .NotIn (.var 5) (.var 3)) (.cmp .Lt (.var 7) (.idx (.qd (.var 3) (.var 5)) (.cst (.int 0))))) (.cons (.dput (.var 3) (.var 5) (.tup (.cons (.var 7) (.cons (.bin .Add (.idx (.qd (.var 0) (.var 4)) (.cst (.int 1))) (.tup (.cons (.idx (.var 6) (.cst (.int 1))) .nil))) .nil)))) .nil) .nil) .nil))) .nil) .nil)) .nil)) (.cons (.ret (.bK (.var 3))) .nil)))
theorem lE:Keeps bQ bT bD:=by
 rintro ds μ Q ⟨ks,vs,n,b,R,ks',vs',K,rfl,hD,hn,hT,hb,hR,h⟩
 obtain ⟨is,rfl,nd,hl,hf⟩:=id hD
 simp only [bT,bQ,aL,iB,wSs,wS,wE,wEs,wI,aV,Qp,Am,List.map_cons,List.map_nil,List.length_cons,List.length_nil,List.cons_append,List.nil_append,List.getElem?_cons_zero,List.getElem?_cons_succ,Nat.reduceAdd,Nat.reduceSub,List.replicate,List.set]
 refine ⟨is,rfl,?_⟩
 refine aU (fun ds ρ μ'=>∃ pre post fk fv F v4 v5 v6 v7,is=pre ++ post/\ds=post.map D.int/\ρ=[some (.kZ (is.map Sum.inl) vs),some (.int (b:Int)),some (.loc n),some (.loc μ.length),v4,v5,v6,v7]/\μ'=μ ++ [.cH fk fv]/\d7 fk fv (vQ F)/\tK (vU R) (rJ K) b (fun x y=>x∈pre/\x < y/\y<=(b:Int)) (vU F)/\Src R K b F/\(∀ e r,F e=some r->0<=e/\e<=(b:Int))/\(fk,fv)=pre.foldl (fun X a=>stA ks' vs' (is.map Sum.inl) vs b a X) (is.map Sum.inl,vs)) ?_ ?_ _ _ _
  ⟨[],is,_,_,R,_,_,_,_,rfl,rfl,rfl,rfl,hD,tK.start.weak fun _ _ _ _ p=>absurd p.1 (by simp),fun e x q=>.inl q,fun e r q=>(hR e r q).1,rfl⟩
 ·rintro d ds ρ μ' N hN ⟨pre,post,fk,fv,F,v4,v5,v6,v7,e1,e2,rfl,rfl,hF,hP,hS,hB,Xv⟩
  cases post with
  | nil=>cases e2
  | cons a post =>
   simp only [List.map_cons,List.cons.injEq] at e2
   obtain ⟨rfl,rfl⟩:=e2
   refine ⟨trivial,?_⟩
   have ham:a∈is:=by rw [e1]; simp
   have hra:∃ r,R a=some r:=by
    have:=(d7.jN hl hf a).mp ham
    unfold vQ at this
    cases q:R a with
    | none=>rw [q] at this; exact absurd rfl this
    | some r=>exact ⟨r,rfl⟩
   obtain ⟨⟨r,ps⟩,hr⟩:=hra
   obtain ⟨ha,hps⟩:=hR a _ hr
   have hps:ps.length<=60:=hps
   have hka:aH (is.map (Sum.inl:Int->aC)) vs (.inl a)=some (.tup [.int r,.tup ps]):=by rw [hf]; simp [vQ,hr,pv]
   simp only [cL,wSs,wS,wE,wEs,wI,gO,gB,lq,List.set,List.getElem?_cons_zero,List.getElem?_cons_succ,List.length_cons,List.length_nil]
   refine ⟨⟨by simp only [lim]; lia,by lia,by lia,by lia,by lia⟩,?_⟩
   obtain ⟨X0,Z4⟩:∃ X0,(fk,fv)=X0:=⟨_,rfl⟩
   rw [Z4] at Xv
   refine aU (fun ds ρ μ'=>∃ (j:Nat) (fk:List aC) (fv:List D) (F:PR) (v5 v6 v7:Option D),ds=aM (a + 1 + j) ((b:Int) + 1 - (a + 1) - j).toNat/\ρ=[some (.kZ (is.map Sum.inl) vs),some (.int (b:Int)),some (.loc n),some (.loc μ.length),some (.int a),v5,v6,v7]/\μ'=μ ++ [.cH fk fv]/\d7 fk fv (vQ F) /\
     tK (vU R) (rJ K) b (fun x y=>(x∈pre/\x < y/\y<=(b:Int))∨(x=a/\x < y/\y < a + 1 + j)) (vU F)/\Src R K b F/\(∀ e r,F e=some r->0<=e/\e<=(b:Int))/\(fk,fv)=(List.range j).foldl (fun X (k:Nat)=>st1 ks' vs' r ps a (a + 1 + k) X) X0/\(j:Int)<=(b:Int) + 1 - (a + 1)) ?_ ?_ _ _ _
    ⟨0,fk,fv,F,v5,v6,v7,by simp,rfl,rfl,hF,hP.weak fun x y _ _ p _ _=>by rcases p with p | ⟨rfl,p,q⟩; exact p; lia,hS,hB,Z4,by lia⟩
   ·rintro d ds ρ μ' N' hN' ⟨j,fk,fv,F,v5,v6,v7,e3,rfl,rfl,hF,hP,hS,hB,hX,hjb⟩
    refine ⟨trivial,?_⟩
    obtain ⟨rfl,hj,rfl⟩:=iK e3
    generalize he:a + 1 + (j:Int)=e at *
    obtain ⟨fk0,S9⟩:∃ fk0,fk0=fk:=⟨_,rfl⟩
    obtain ⟨fv0,S7⟩:∃ fv0,fv0=fv:=⟨_,rfl⟩
    rw [<- S9,<- S7] at hX
    have nxt:∀ fk fv (F:PR) v6 v7,d7 fk fv (vQ F)->tK (vU R) (rJ K) b (fun x y=>((x∈pre/\x < y/\y<=(b:Int))∨(x=a/\x < y/\y < e))∨(x=a/\y=e)) (vU F)->Src R K b F->(∀ e r,F e=some r->0<=e/\e<=(b:Int))->(fk,fv)=st1 ks' vs' r ps a e (fk0,fv0) ->
      N' [some (.kZ (is.map Sum.inl) vs),some (.int (b:Int)),some (.loc n),some (.loc μ.length),some (.int a),some (.int e),v6,v7] (μ ++ [.cH fk fv]):=fun fk fv F v6 v7 q1 q2 q3 q4 q5 =>
     hN' _ _ ⟨j + 1,fk,fv,F,_,v6,v7,rfl,rfl,rfl,q1,q2.weak fun x y _ _ p _ _=>by
      rcases p with p | ⟨p1,p2,p3⟩
      ·exact .inl (.inl p)
      ·by_cases c:y=e
       ·exact .inr ⟨p1,c⟩
       ·exact .inl (.inr ⟨p1,p2,by push_cast at p3; lia⟩),q3,q4,by rw [List.range_succ,List.foldl_append,<- hX,q5]; show _=st1 _ _ _ _ _ (a + 1 + (j:Int)) _; rw [he],by push_cast; lia⟩
    have hkey:fB [D.int a,D.int e]=some [.inl a,.inl e]:=rfl
    have hlim:([D.int a,D.int e].length<=lim)=True:=by simp [lim]
    have hdl:∀ x,aH fk fv (.inl x)=vQ F x:=by obtain ⟨_,_,_,_,q⟩:=hF; exact q
    have hin:uY ks' [.inl a,.inl e]=(K a e).isSome:=by rw [hT.has]; simp [DP]
    simp only [cL,wSs,wS,wT,wE,wEs,cM,aG,pB hn,Ao,hkey,List.set,List.getElem?_cons_zero,List.getElem?_cons_succ,hin,gK,jW,truth,Bool.false_bne,hlim,true_and]
    cases hk:K a e with
    | none =>
     simp only [Option.isSome_none,Bool.false_eq_true,if_false]
     have hkn:aH ks' vs' [.inl a,.inl e]=none:=by rw [hT.2]; simp [DP,hk]
     exact nxt _ _ _ _ _ hF (hP.none (by simp [rJ,hk])) hS hB (by simp [st1,hkn,S9,S7])
    | some z =>
     obtain ⟨t,p⟩:=z
     have hkt:aH ks' vs' [.inl a,.inl e]=some (.tup [.int t,p]):=by rw [hT.2]; simp [DP,hk,kv]
     have x0:∀ x y:D,(([x,y]:List D).length)=2:=fun _ _=>rfl
     have i0:wF 2 0=some 0:=by decide
     have i1:wF 2 1=some 1:=by decide
     have hhk:uY fk (.inl e)=(F e).isSome:=by rw [hF.has]; simp [vQ]
     simp only [Option.isSome_some,if_true,rE,je,hka,hkt,pB hn,hkey,gO,List.set,List.getElem?_cons_zero,List.getElem?_cons_succ,nq,aG,x0,i0,i1,Option.bind_some,cT,hhk,hlim]
     refine ⟨by simp [lim],?_⟩
     have put:(∀ s,vU F e=some s->r + t < s)->(match aH fk fv (.inl e) with | some (.tup (.int s :: _))=>decide (r + t < s) | _=>true)=true->fk.length < lim/\N' [some (.kZ (is.map Sum.inl) vs),some (.int (b:Int)),some (.loc n),some (.loc μ.length),some (.int a),some (.int e),some (.tup [.int t,p]),some (.int (r + t))] ((μ ++ [Cell.cH fk fv]).set μ.length (Cell.cH (cB fk (.inl e)) (dw fk fv (.inl e) (.tup [.int (r + t),.tup (ps ++ [p])])))):=fun hs hq=>by
      have:=d7.len hF (b:=b) fun x d q=>by obtain ⟨s,q1,_⟩:=Wc q; exact hB x s q1
      refine ⟨by simp only [lim]; lia,?_⟩
      rw [jO]
      refine nxt _ _ (fun x=>if x=e then some (r + t,ps ++ [p]) else F x) _ _ ?_ ?_ (fun x y q=>?_) (fun x s q=>?_) (by rw [S9,S7]; unfold st1; rw [hkt]; simp only; rw [if_pos hq])
      ·have e5:vQ (fun x=>if x=e then some (r + t,ps ++ [p]) else F x)=fun x=>if x=e then some (.tup [.int (r + t),.tup (ps ++ [p])]) else vQ F x:=by
        funext x
        unfold vQ
        by_cases c:x=e
        ·simp [c,pv]
        ·simp [c]
       rw [e5]
       exact hF.put e _
      ·have e5:vU (fun x=>if x=e then some (r + t,ps ++ [p]) else F x)=fun x=>if x=e then some (r + t) else vU F x:=by
        funext x
        unfold vU
        by_cases c:x=e
        ·simp [c]
        ·simp [c]
       rw [e5]
       exact hP.put (CK hr) (pZ hk) (by lia) (by lia) hs
      ·replace q:(if x=e then some (r + t,ps ++ [p]) else F x)=some y:=q
       by_cases c:x=e
       ·subst c
        rw [if_pos rfl] at q; cases q
        exact .inr ⟨a,(r,ps),(t,p),hr,hk,by lia,by lia,rfl⟩
       ·rw [if_neg c] at q; exact hS x y q
      ·by_cases c:x=e
       ·subst c; lia
       ·rw [if_neg c] at q; exact hB x s q
     cases hs:F e with
     | none =>
      simp only [Option.isSome_none,Bool.bne_false,if_true,jH,cT,je]
      exact ⟨by simp [lim],by simp [lim]; lia,by simp [lim],put (fun s q=>by simp [vU,hs] at q) (by rw [hdl]; simp [vQ,hs])⟩
     | some x =>
      obtain ⟨s,ps'⟩:=x
      have e6:vQ F e=some (.tup [.int s,.tup ps']):=by simp [vQ,hs,pv]
      have hss:vU F e=some s:=by simp [vU,hs]
      simp only [Option.isSome_some,hdl,e6,bne_self_eq_false,Bool.false_eq_true,if_false,x0,i0,Option.bind_some,List.getElem?_cons_zero,vR]
      by_cases c:r + t < s
      ·simp only [decide_eq_true c,if_true,jH,cT,je]
       exact ⟨by simp [lim],by simp [lim]; lia,by simp [lim],put (fun s' q=>by rw [hss] at q; cases q; exact c) (by rw [hdl,e6]; simpa using c)⟩
      ·simp only [decide_eq_false c,Bool.false_eq_true,if_false]
       exact nxt _ _ _ _ _ hF (hP.skip (CK hr) (pZ hk) hss (by lia)) hS hB (by rw [S9,S7]; unfold st1; rw [hkt]; simp only; rw [if_neg (by rw [hdl,e6]; simpa using c)])
   ·rintro ρ μ' ⟨j,fk,fv,F,v5,v6,v7,e3,rfl,rfl,hF,hP,hS,hB,hX,hjb⟩
    have hj:=fM e3
    refine ⟨trivial,hN _ _ ⟨pre ++ [a],post,fk,fv,F,_,_,_,_,by rw [e1]; simp,rfl,rfl,rfl,hF,hP.weak fun x y _ _ p _ _=>?_,hS,hB,?_⟩⟩
    rotate_left
    ·rw [List.foldl_append,<- Xv,hX]
     show _=stA ks' vs' (is.map Sum.inl) vs b a X0
     unfold stA
     rw [hka]
     simp only
     rw [show ((b:Int) + 1 - (a + 1)).toNat=j by lia]
    obtain ⟨p1,p2,p3⟩:=p
    rcases List.mem_append.mp p1 with p1 | p1
    ·exact .inl ⟨p1,p2,p3⟩
    ·have:x=a:=by simpa using p1
     exact .inr ⟨this,p2,by lia⟩
 ·rintro ρ μ' ⟨pre,post,fk,fv,F,v4,v5,v6,v7,e1,e2,rfl,rfl,hF,hP,hS,hB,Xv⟩
  have hp:post=[]:=by simpa using e2.symm
  subst hp
  rw [List.append_nil] at e1
  subst e1
  refine ⟨trivial,?_⟩
  simp only [yh,cT,jO,List.getElem?_cons_zero,List.getElem?_cons_succ]
  refine h fk fv F [.gone] (by rw [Xv]; unfold stD; simp only [List.map_map]; rw [show (ZG ∘ Sum.inl:Int->Int)=id from rfl,List.map_id]) hF (hP.done fun x y r hr h1 h2=>⟨(d7.jN hl hf x).mpr ?_,h1,h2⟩) hS hB
  obtain ⟨z,hz,_⟩:=Ou hr
  simp [vQ,hz]
inductive kI (K:TF) (b:Int) (R:SF):Nat->SF->Prop
 | zero:kI K b R 0 R
 | succ {n:Nat} {G F:SF}:kI K b R n G->Qh G K b F->kI K b R (n + 1) F
theorem kI.uniq {K:TF} {b:Int} {R:SF}:∀ {n:Nat} {F G:SF},kI K b R n F->kI K b R n G->F=G
 | 0,_,_,.zero,.zero=>rfl
 | n + 1,_,_,.succ h1 h2,.succ h3 h4=>by
  have:=kI.uniq h1 h3
  subst this
  exact h2.uniq h4
theorem kI.keep {K:TF} {b:Int} {R:SF} {e r:Int} (hr:R e=some r):∀ {n:Nat} {F:SF},kI K b R n F->∃ s,F e=some s
 | 0,_,.zero=>⟨r,hr⟩
 | n + 1,_,.succ h1 h2=>by
  obtain ⟨s,hs⟩:=kI.keep hr h1
  obtain ⟨s',h',_⟩:=h2.old e s hs
  exact ⟨s',h'⟩
noncomputable def iz (f:Int):SF:=fun e=>if e=f then some 0 else none
theorem kI.two {K:TF} {b f m t1 t2:Int} (h1:K f m=some t1) (h2:K m b=some t2) (l1:f < m) (l2:m < b):∀ {n:Nat} {F:SF},2<=n->kI K b (iz f) n F->∃ s,F b=some s
 | 0,_,h,_=>by lia
 | 1,_,h,_=>by lia
 | n + 2,_,_,.succ (.succ (G:=H) (F:=G) g1 g2) g3=>by
  obtain ⟨s,hs⟩:=kI.keep (R:=iz f) (e:=f) (r:=0) (by simp [iz]) g1
  obtain ⟨s2,hs2,_⟩:=g2.via f m s t1 hs h1 l1 (by lia)
  obtain ⟨s3,hs3,_⟩:=g3.via m b s2 t2 hs2 h2 l2 (by lia)
  exact ⟨s3,hs3⟩
inductive Ch (K:KP) (f:Int):Nat->Int->(Int×List D)->Prop
 | nil {n:Nat}:Ch K f n f (0,[])
 | snoc {n:Nat} {a e:Int} {y:Int×List D} {z:Int×D}:Ch K f n a y->K a e=some z->a < e->Ch K f (n + 1) e (y.1 + z.1,y.2 ++ [z.2])
theorem Ch.up {K:KP} {f e:Int} {n:Nat} {x:Int×List D} (h:Ch K f n e x):Ch K f (n + 1) e x:=by
 induction h with
 | nil=>exact .nil
 | snoc h1 h2 h3 ih=>exact .snoc ih h2 h3
theorem Ch.len {K:KP} {f e:Int} {n:Nat} {x:Int×List D} (h:Ch K f n e x):x.2.length<=n:=by
 induction h with
 | nil=>simp
 | snoc h1 h2 h3 ih=>simp; lia
noncomputable def itR (ks':List (List aC)) (vs':List D) (f b:Int):Nat->List aC×List D
 | 0=>([.inl f],[.tup [.int 0,.tup []]])
 | j + 1=>stD ks' vs' b (itR ks' vs' f b j)
noncomputable def lpX (ks':List (List aC)) (vs':List D) (f b:Int) (w:Nat):Option D:=aH (itR ks' vs' f b w).1 (itR ks' vs' f b w).2 (.inl b)
noncomputable def dB:iZ:=fun ds μ Q=>∃ (f b w n:Nat) (ks':List (List aC)) (vs':List D) (K:KP) (m:Int) (z1 z2:Int×D),ds=[.int (f:Int),.int (b:Int),.int (w:Int),.loc n]/\μ[n]? = some (.bW ks' vs')/\cV ks' vs' (DP K)/\b<=60/\2<=w/\w<=8/\f<=b /\
 K f m=some z1/\K m b=some z2/\(f:Int) < m/\m < (b:Int) /\
 ∀ x F ν,lpX ks' vs' f b w=some (pv x)->kI (rJ K) b (iz f) w F->F b=some x.1->Ch K f w b x->Q (pv x) (μ ++ ν)
noncomputable def d9:List Str:=["first","behind","width","known","reached","count"]
noncomputable def eG:Ss:=(.cons (.set 4 (.bK (.Gq "{}" (.var 0) (.tup (.cons (.cst (.int 0)) (.cons (.tup .nil) .nil)))))) (.cons (.for_ [5] false (.rng (.cons (.var 2) .nil)) (.cons (.set 4 (.call "one_stretch_further" bD (.cons (.var 4) (.cons (.var 1) (.cons (.var 3) .nil))))) .nil)) (.cons (.ret (.qd (.var 4) (.var 1))) .nil)))
theorem fZ {μ ν:Mem} {n:Nat} {d:Cell} (h:μ[n]? = some d):(μ ++ ν)[n]? = some d:=by
 have hl:n < μ.length:=(List.getElem?_eq_some_iff.mp h).1
 rw [List.getElem?_append_left hl]; exact h
theorem rW:Keeps d9 eG dB:=by
 rintro ds μ Q ⟨f,b,w,n,ks',vs',K,m,z1,z2,rfl,hn,hT,hb,w2,w8,hfb,hz1,hz2,l1,l2,h⟩
 simp only [eG,d9,aL,iB,wSs,wS,wE,wEs,wI,Kp,Ko,yh,je,gB,lq,List.map_cons,List.map_nil,List.length_cons,List.length_nil,List.cons_append,List.nil_append,List.getElem?_cons_zero,List.getElem?_cons_succ,Nat.reduceAdd,Nat.reduceSub,List.replicate,List.set,if_true,cT,jO]
 refine ⟨by simp [lim],by simp [lim],trivial,by simp only [lim]; lia,by lia,?_⟩
 refine aU (fun ds ρ μ'=>∃ (j:Nat) (ks:List aC) (vs:List D) (F:PR) (ν:Mem) (v5:Option D),j + ds.length=w/\ρ=[some (.int (f:Int)),some (.int (b:Int)),some (.int (w:Int)),some (.loc n),some (.kZ ks vs),v5]/\μ'=μ ++ ν/\d7 ks vs (vQ F)/\kI (rJ K) b (iz f) j (vU F)/\(∀ e x,F e=some x->Ch K f j e x)/\(∀ e x,F e=some x->0<=e/\e<=(b:Int))/\(ks,vs)=itR ks' vs' f b j) ?_ ?_ _ _ _
  ⟨0,_,_,fun e=>if e=f then some (0,[]) else none,[.gone],none,by simp [aM],rfl,rfl,?_,?_,?_,?_,rfl⟩
 ·rintro d ds ρ μ' N hN ⟨j,ks,vs,F,ν,v5,hj,rfl,rfl,hF,hX,hC,hB,hI⟩
  refine ⟨trivial,?_⟩
  simp only [List.length_cons] at hj
  simp only [cL,wSs,wS,wE,wEs,List.set,List.getElem?_cons_zero,List.getElem?_cons_succ]
  refine ⟨ks,vs,n,b,F,ks',vs',K,rfl,hF,fZ hn,hT,hb,fun e r q=>⟨hB e r q,by have:=(hC e r q).len; lia⟩,fun DQ vs2 F2 ν2 q0 q1 q2 q3 q4=>?_⟩
  refine hN _ _ ⟨j + 1,DQ,vs2,F2,ν ++ ν2,_,by lia,rfl,by rw [List.append_assoc],q1,.succ hX q2,fun e x q=>?_,q4,by rw [q0,hI]; rfl⟩
  rcases q3 e x q with q | ⟨a,y,z,p1,p2,p3,p4,rfl⟩
  ·exact (hC e x q).up
  ·exact .snoc (hC a y p1) p2 p3
 ·rintro ρ μ' ⟨j,ks,vs,F,ν,v5,hj,rfl,rfl,hF,hX,hC,hB,hI⟩
  have hj:j=w:=by simpa using hj
  subst hj
  refine ⟨trivial,?_⟩
  obtain ⟨s,hs⟩:=hX.two (pZ hz1) (pZ hz2) l1 l2 w2
  obtain ⟨x,hx,rfl⟩:=Ou hs
  have hd:aH ks vs (.inl (b:Int))=some (pv x):=by
   obtain ⟨_,_,_,_,q⟩:=hF
   rw [q]; simp [vQ,hx]
  simp only [List.getElem?_cons_zero,List.getElem?_cons_succ,rE,je,hd]
  exact h x _ ν (by unfold lpX; rw [<- hI]; exact hd) hX hs (hC _ _ hx)
 ·have e:vQ (fun e=>if e=(f:Int) then some (0,[]) else none)=fun e=>if e=(f:Int) then some (.tup [.int 0,.tup []]) else none:=by
   funext e
   unfold vQ
   by_cases c:e=(f:Int)
   ·simp [c,pv]
   ·simp [c]
  rw [e]
  exact d7.one _ _
 ·have e:vU (fun e=>if e=(f:Int) then some (0,[]) else none)=iz f:=by
   funext e
   unfold vU iz
   by_cases c:e=(f:Int)
   ·simp [c]
   ·simp [c]
  rw [e]
  exact .zero
 ·intro e x q
  replace q:(if e=(f:Int) then some ((0:Int),([]:List D)) else none)=some x:=q
  by_cases c:e=(f:Int)
  ·subst c
   rw [if_pos rfl] at q; cases q
   exact .nil
  ·rw [if_neg c] at q; cases q
 ·intro e x q
  replace q:(if e=(f:Int) then some ((0:Int),([]:List D)) else none)=some x:=q
  by_cases c:e=(f:Int)
  ·lia
  ·rw [if_neg c] at q; cases q
noncomputable def tab (n:Nat) (V:Int->Int->Int) (s f:Nat):TF:=fun a b=>if 0<=a/\a < b/\b<=(n:Int)/\(b - a < (s:Int)∨(b - a=(s:Int)/\a < (f:Int))) then some (V a b) else none
theorem Bc {n s f:Nat} {V:Int->Int->Int} {a b t:Int} (h:tab n V s f a b=some t):(0<=a/\a < b/\b<=(n:Int)/\(b - a < (s:Int)∨(b - a=(s:Int)/\a < (f:Int))))/\t=V a b:=by
 unfold tab at h
 split at h
 ·rename_i c; cases h; exact ⟨c,rfl⟩
 ·cases h
noncomputable def sm (ls:List Int) (f s:Nat):Int:=((ls.drop f).take s).sum
noncomputable def cP (ls:List Int) (w:Nat) (V:Int->Int->Int) (s f:Nat):Prop:=∀ s' f':Nat,1<=s'->f' + s'<=ls.length->(s' < s∨(s'=s/\f' < f)) ->
 (s'=1->V f' (f' + s':Nat)=0)/\(2<=s'->∃ F m,kI (tab ls.length V s' f') (f' + s':Nat) (iz f') w F/\F (f' + s':Nat)=some m/\V f' (f' + s':Nat)=sm ls f' s' + m)
noncomputable def nQ (V:Int->Int->Int) (f b t:Int):Int->Int->Int:=fun x y=>if x=f/\y=b then t else V x y
theorem QF {n s f s' f':Nat} {V:Int->Int->Int} {t:Int} (h:s' < s∨(s'=s/\f'<=f)):tab n (nQ V f (f + s:Nat) t) s' f'=tab n V s' f':=by
 funext a b
 unfold tab
 split
 ·rename_i c
  congr 1
  unfold nQ
  rw [if_neg (fun z=>by obtain ⟨z1,z2⟩:=z; subst z1 z2; push_cast at c; lia)]
 ·rfl
theorem yG {n s f:Nat} {V:Int->Int->Int} {t:Int} (h1:1<=s) (h2:f + s<=n):tab n (nQ V f (f + s:Nat) t) s (f + 1)=fun x y=>if x=(f:Int)/\y=((f + s:Nat):Int) then some t else tab n V s f x y:=by
 funext a b
 unfold tab
 by_cases c:a=(f:Int)/\b=((f + s:Nat):Int)
 ·rw [if_pos c,if_pos (by obtain ⟨rfl,rfl⟩:=c; push_cast; lia)]
  unfold nQ; rw [if_pos c]
 ·rw [if_neg c]
  by_cases d:0<=a/\a < b/\b<=(n:Int)/\(b - a < (s:Int)∨(b - a=(s:Int)/\a < (f:Int)))
  ·rw [if_pos d,if_pos (by push_cast; lia)]
   unfold nQ; rw [if_neg c]
  ·rw [if_neg d,if_neg (fun z=>d (by
    refine ⟨z.1,z.2.1,z.2.2.1,?_⟩
    rcases z.2.2.2 with z | ⟨z1,z2⟩
    ·exact .inl z
    ·right
     refine ⟨z1,?_⟩
     by_cases e:a=(f:Int)
     ·exact absurd ⟨e,by push_cast; lia⟩ c
     ·push_cast at z2; lia))]
theorem ud {n s:Nat} {V:Int->Int->Int} {f:Nat} (h:n < f + s):tab n V s f=tab n V (s + 1) 0:=by
 funext a b
 unfold tab
 by_cases d:0<=a/\a < b/\b<=(n:Int)/\(b - a < (s:Int)∨(b - a=(s:Int)/\a < (f:Int)))
 ·rw [if_pos d,if_pos (by push_cast; lia)]
 ·rw [if_neg d,if_neg (fun z=>d (by push_cast at z; lia))]
theorem cP.put {ls:List Int} {w s f:Nat} {V:Int->Int->Int} {t:Int} (h:cP ls w V s f) (hs:1<=s) (hf:f + s<=ls.length) (h1:s=1->t=0)
  (h2:2<=s->∃ F m,kI (tab ls.length V s f) (f + s:Nat) (iz f) w F/\F (f + s:Nat)=some m/\t=sm ls f s + m):cP ls w (nQ V f (f + s:Nat) t) s (f + 1):=by
 intro s' f' a1 a2 a3
 have a3':s' < s∨(s'=s/\f'<=f):=by lia
 rw [QF a3']
 by_cases c:s'=s/\f'=f
 ·obtain ⟨rfl,rfl⟩:=c
  have e:nQ V f' (f' + s':Nat) t f' (f' + s':Nat)=t:=by simp [nQ]
  rw [e]
  exact ⟨h1,h2⟩
 ·have e:nQ V f (f + s:Nat) t f' (f' + s':Nat)=V f' (f' + s':Nat):=by
   unfold nQ
   rw [if_neg (fun z=>c (by obtain ⟨z1,z2⟩:=z; push_cast at z2; lia))]
  rw [e]
  exact h s' f' a1 a2 (by lia)
theorem cP.next {ls:List Int} {w s f:Nat} {V:Int->Int->Int} (h:cP ls w V s f) (hf:ls.length < f + s):cP ls w V (s + 1) 0:=by
 intro s' f' a1 a2 a3
 exact h s' f' a1 a2 (by lia)
theorem cP.uniq {ls:List Int} {w S:Nat} {V V':Int->Int->Int} (h:cP ls w V (S + 1) 0) (h':cP ls w V' (S + 1) 0):∀ (s f:Nat),1<=s->s<=S->f + s<=ls.length->V f (f + s:Nat)=V' f (f + s:Nat):=by
 intro s
 induction s using Nat.strongRecOn with
 | _ s ihs =>
  intro f
  induction f using Nat.strongRecOn with
  | _ f ihf =>
   intro h1 hS h2
   obtain ⟨a1,a2⟩:=h s f h1 h2 (by lia)
   obtain ⟨b1,b2⟩:=h' s f h1 h2 (by lia)
   by_cases c:s=1
   ·rw [a1 c,b1 c]
   ·obtain ⟨F,m,p1,p2,p3⟩:=a2 (by lia)
    obtain ⟨F',m',q1,q2,q3⟩:=b2 (by lia)
    have e:tab ls.length V s f=tab ls.length V' s f:=by
     funext a b
     unfold tab
     split
     ·rename_i d
      congr 1
      have ea:a=((a.toNat:Nat):Int):=by lia
      have eb:b=((a.toNat + (b - a).toNat:Nat):Int):=by push_cast; lia
      rw [ea,eb]
      rcases d.2.2.2 with d1 | ⟨d1,d2⟩
      ·exact ihs (b - a).toNat (by lia) a.toNat (by lia) (by lia) (by lia)
      ·have e3:(b - a).toNat=s:=by lia
       rw [e3]
       exact ihf a.toNat (by lia) h1 hS (by lia)
     ·rfl
    rw [e] at p1
    have:=p1.uniq q1
    subst this
    rw [p2] at q2; cases q2
    rw [p3,q3]
noncomputable def Bd (w:Nat):Nat->Int
 | 0=>0
 | 1=>0
 | s + 2=>((s:Int) + 2) * 1000000 + (w:Int) * Bd w (s + 1)
theorem vO (w:Nat):∀ s,0<=Bd w s
 | 0=>by simp [Bd]
 | 1=>by simp [Bd]
 | s + 2=>by
  have:=vO w (s + 1)
  have:=Int.mul_nonneg (show (0:Int)<=w by lia) this
  simp only [Bd]; lia
theorem Ud {w:Nat} (hw:1<=w):∀ s,Bd w s<=Bd w (s + 1)
 | 0=>by simp [Bd]
 | s + 1=>by
  have h1:=vO w (s + 1)
  have h2:1 * Bd w (s + 1)<=(w:Int) * Bd w (s + 1):=Int.mul_le_mul_of_nonneg_right (by lia) h1
  show Bd w (s + 1)<=Bd w (s + 2)
  simp only [Bd] at h2 ⊢; lia
theorem Vm {w:Nat} (hw:1<=w):∀ {s t:Nat},s<=t->Bd w s<=Bd w t:=by
 intro s t h
 induction h with
 | refl=>exact Int.le_refl _
 | step _ ih=>exact Int.le_trans ih (Ud hw _)
theorem eF {μ ν:Mem} {c:Cell}:(μ ++ c :: ν)[μ.length]? = some c:=by simp
theorem m6 {μ ν:Mem} {c d:Cell}:(μ ++ c :: ν).set μ.length d=μ ++ d :: ν:=by simp
theorem Y7 {ls:List Int} (h:∀ l∈ls,0<=l/\l < 1000000) (f s:Nat):sm ls f s<=(s:Int) * 1000000:=by
 unfold sm
 have:∀ (l:List Int) (s:Nat),(∀ x∈l,0<=x/\x < 1000000)->(l.take s).sum<=(s:Int) * 1000000:=by
  intro l
  induction l with
  | nil=>intro s _; simp; lia
  | cons x l ih =>
   intro s hx
   cases s with
   | zero=>simp
   | succ s =>
    rw [List.take_succ_cons,List.sum_cons]
    have:=hx x (by simp)
    have:=ih s fun y hy=>hx y (by simp [hy])
    push_cast; lia
 exact this _ s fun x hx=>h x (List.mem_of_mem_drop hx)
theorem GJ {ls:List Int} {f s:Nat} (h:f + s<=ls.length):iT (cutD (ls.map D.int) (some (f:Int)) (some ((f + s:Nat):Int)))=some ((ls.drop f).take s):=by
 have e:cutD (ls.map D.int) (some (f:Int)) (some ((f + s:Nat):Int))=((ls.drop f).take s).map D.int:=by
  have h1:¬ ((f:Int) < 0):=by lia
  have h2:¬ (((f + s:Nat):Int) < 0):=by lia
  simp only [cutD,Ep,if_neg h1,if_neg h2,Int.toNat_natCast,List.length_map]
  rw [show min f ls.length=f by lia,show min (f + s) ls.length=f + s by lia,show f + s - f=s by lia]
  simp [List.map_take,List.map_drop]
 rw [e]
 simpa using xP (fun i:Int=>i) ((ls.drop f).take s)
noncomputable def mY:iZ:=fun ds μ Q=>∃ (ls:List Int) (w:Nat),ds=[.lst (ls.map D.int),.int (w:Int)]/\1<=ls.length/\ls.length<=12/\2<=w/\w<=8/\(∀ l∈ls,0<=l/\l < 1000000)/\(w:Int) * Bd w (ls.length - 1) < 10 ^ 12 /\
 ∀ V ks vs ν,cP ls w V (ls.length + 1) 0->cV ks vs (gZ (tab ls.length V (ls.length + 1) 0))->Q (.loc μ.length) (μ ++ .bW ks vs :: ν)
noncomputable def pP:List Str:=["lengths","width","found","size","first","behind","best","parts","total"]
noncomputable def pX:Ss:=(.cons (.set 2 (.Dc true)) (.cons (.for_ [3] false (.rng (.cons (.cst (.int 1)) (.cons (.bin .Add (.blt "len" (.cons (.var 0) .nil)) (.cst (.int 1))) .nil))) (.cons (.for_ [4] false (.rng (.cons (.bin .Add (.bin .Sub (.blt "len" (.cons (.var 0) .nil)) (.var 3)) (.cst (.int 1))) .nil)) (.cons (.set 5 (.bin .Add (.var 4) (.var 3))) (.cons (.set 6 (.bK (.Gq "{}" (.var 4) (.cst (.int 0))))) (.cons (.for_ [7] false (.rng (.cons (.var 1) .nil)) (.cons (.set 6 (.call "_law_more" pq (.cons (.var 6) (.cons (.var 2) (.cons (.var 5) .nil))))) .nil)) (.cons (.set 8 (.cst (.int 0))) (.cons (.ite (.cmp .Gt (.var 3) (.cst (.int 1))) (.cons (.set 8 (.bin .Add (.qd (.var 6) (.var 5)) (.blt "sum" (.cons (.slc false (.var 0) (.cons (.var 4) .nil) (.cons (.var 5) .nil)) .nil)))) .nil) .nil) (.cons (.dput (.var 2) (.tup (.cons (.var 4) (.cons (.var 5) .nil))) (.var 8)) .nil))))))) .nil)) (.cons (.ret (.var 2)) .nil)))
theorem vD {μ ν ν2:Mem} {c:Cell}:(μ ++ c :: ν) ++ ν2=μ ++ c :: (ν ++ ν2):=by simp
theorem Ob:Keeps pP pX mY:=by
 rintro ds μ Q ⟨ls,w,rfl,n1,n12,w2,w8,hls,hbd,h⟩
 simp only [pX,pP,aL,iB,wSs,wS,wE,wEs,wI,aV,lenOf,aG,gO,gB,lq,List.map_cons,List.map_nil,List.length_cons,List.length_nil,List.length_map,List.cons_append,List.nil_append,List.getElem?_cons_zero,List.getElem?_cons_succ,Nat.reduceAdd,Nat.reduceSub,List.replicate,List.set,if_true,Option.map_some]
 refine ⟨⟨by simp only [lim]; lia,by lia,by lia,by lia,by lia⟩,?_⟩
 have hlm:(ls.map D.int).length=ls.length:=by simp
 refine aU (fun ds ρ μ'=>∃ (j:Nat) (ks:List (List aC)) (vs:List D) (V:Int->Int->Int) (ν:Mem) (v3 v4 v5 v6 v7 v8:Option D),ds=aM (1 + j) ((ls.length:Int) + 1 - 1 - j).toNat/\ρ=[some (.lst (ls.map D.int)),some (.int (w:Int)),some (.loc μ.length),v3,v4,v5,v6,v7,v8]/\μ'=μ ++ .bW ks vs :: ν /\
   cV ks vs (gZ (tab ls.length V (1 + j) 0))/\cP ls w V (1 + j) 0/\(∀ a b,V a b<=Bd w (b - a).toNat)/\ks.length<=60 * (1 + j)/\j<=ls.length) ?_ ?_ _ _ _ ⟨0,[],[],fun _ _=>0,[],none,none,none,none,none,none,by simp,rfl,rfl,?_,?_,fun a b=>vO _ _,by simp,by lia⟩
 ·rintro d ds ρ μ' N hN ⟨j,ks,vs,V,ν,v3,v4,v5,v6,v7,v8,e1,rfl,rfl,hT,hV,hB,hk,hjn⟩
  refine ⟨trivial,?_⟩
  obtain ⟨rfl,hj,rfl⟩:=iK e1
  have abM:j + 1<=ls.length:=by lia
  have es:(1:Int) + (j:Int)=((1 + j:Nat):Int):=by push_cast; rfl
  have hN:∀ ks vs V ν v3 v4 v5 v6 v7 v8,cV ks vs (gZ (tab ls.length V (1 + j + 1) 0))->cP ls w V (1 + j + 1) 0->(∀ a b,V a b<=Bd w (b - a).toNat)->ks.length<=60 * (1 + j + 1) ->
    N [some (.lst (ls.map D.int)),some (.int (w:Int)),some (.loc μ.length),v3,v4,v5,v6,v7,v8] (μ ++ .bW ks vs :: ν):=fun ks vs V ν v3 v4 v5 v6 v7 v8 q1 q2 q3 q4=>hN _ _ ⟨j + 1,ks,vs,V,ν,v3,v4,v5,v6,v7,v8,rfl,rfl,rfl,q1,q2,q3,q4,abM⟩
  rw [es] at hj ⊢
  generalize hs:1 + j=s at *
  have hs1:1<=s:=by lia
  simp only [cL,wSs,wS,wE,wEs,wI,aV,lenOf,aG,gO,gB,lq,List.length_cons,List.length_nil,List.length_map,List.getElem?_cons_zero,List.getElem?_cons_succ,Nat.reduceAdd,List.set,Option.map_some]
  refine ⟨by simp only [lim]; lia,by lia,?_⟩
  refine aU (fun ds ρ μ'=>∃ (f:Nat) (ks:List (List aC)) (vs:List D) (V:Int->Int->Int) (ν:Mem) (v4 v5 v6 v7 v8:Option D),ds=aM (0 + f) ((ls.length:Int) - s + 1 - 0 - f).toNat/\ρ=[some (.lst (ls.map D.int)),some (.int (w:Int)),some (.loc μ.length),some (.int (s:Int)),v4,v5,v6,v7,v8]/\μ'=μ ++ .bW ks vs :: ν /\
    cV ks vs (gZ (tab ls.length V s f))/\cP ls w V s f/\(∀ a b,V a b<=Bd w (b - a).toNat)/\ks.length<=60 * s + f/\f + s<=ls.length + 1) ?_ ?_ _ _ _ ⟨0,ks,vs,V,ν,v4,v5,v6,v7,v8,by simp,rfl,rfl,hT,hV,hB,by lia,by lia⟩
  ·rintro d ds ρ μ' N' hN' ⟨f,ks,vs,V,ν,v4,v5,v6,v7,v8,e2,rfl,rfl,hT,hV,hB,hk,hfn⟩
   refine ⟨trivial,?_⟩
   obtain ⟨rfl,hf,rfl⟩:=iK e2
   have ef:(0:Int) + (f:Int)=(f:Int):=by lia
   rw [ef] at hf ⊢
   have hfs:f + s<=ls.length:=by lia
   have eb:(f:Int) + (s:Int)=((f + s:Nat):Int):=by push_cast; rfl
   have hN':∀ ks vs V ν v4 v5 v6 v7 v8,cV ks vs (gZ (tab ls.length V s (f + 1)))->cP ls w V s (f + 1)->(∀ a b,V a b<=Bd w (b - a).toNat)->ks.length<=60 * s + (f + 1) ->
     N' [some (.lst (ls.map D.int)),some (.int (w:Int)),some (.loc μ.length),some (.int (s:Int)),v4,v5,v6,v7,v8] (μ ++ .bW ks vs :: ν):=fun ks vs V ν v4 v5 v6 v7 v8 q1 q2 q3 q4=>hN' _ _ ⟨f + 1,ks,vs,V,ν,v4,v5,v6,v7,v8,rfl,rfl,rfl,q1,q2,q3,q4,by lia⟩
   simp only [cL,wSs,wS,wE,wEs,wI,Kp,Ko,yh,je,gO,gB,lq,List.length_cons,List.length_nil,List.getElem?_cons_zero,List.getElem?_cons_succ,Nat.reduceAdd,List.set,if_true,cT,jO,eb]
   refine ⟨trivial,by simp only [lim]; lia,by lia,?_⟩
   refine aU (fun ds ρ μ'=>∃ (i:Nat) (bk:List aC) (bv:List D) (F:SF) (ν':Mem) (v7:Option D),i + ds.length=w/\ρ=[some (.lst (ls.map D.int)),some (.int (w:Int)),some (.loc μ.length),some (.int (s:Int)),some (.int (f:Int)),some (.int ((f + s:Nat):Int)),some (.kZ bk bv),v7,v8]/\μ'=μ ++ .bW ks vs :: ν' /\
     d7 bk bv (jf F)/\kI (tab ls.length V s f) (f + s:Nat) (iz f) i F/\∀ e r,F e=some r->((f:Int)<=e/\e<=((f + s:Nat):Int))/\r<=(i:Int) * Bd w (s - 1)) ?_ ?_ _ _ _ ⟨0,_,_,iz f,ν ++ [.gone],v7,by simp [aM],rfl,vD,?_,.zero,?_⟩
   ·rintro d ds ρ μ' M hM ⟨i,bk,bv,F,ν',v7,hi,rfl,rfl,hF,hX,hE⟩
    refine ⟨trivial,?_⟩
    simp only [List.length_cons] at hi
    have vb:∀ a e t,(f:Int)<=a->e<=((f + s:Nat):Int)->tab ls.length V s f a e=some t->t<=Bd w (s - 1):=fun a e t q1 q2 q3=>by
     obtain ⟨q4,rfl⟩:=Bc q3
     have:=hB a e
     have:=Vm (w:=w) (by lia) (show (e - a).toNat<=s - 1 by push_cast at q2; lia)
     lia
    have bp:=vO w (s - 1)
    have hup:∀ k:Nat,k<=w->(k:Int) * Bd w (s - 1) < 10 ^ 12:=fun k hk=>by
     have h1:(k:Int) * Bd w (s - 1)<=(w:Int) * Bd w (s - 1):=Int.mul_le_mul_of_nonneg_right (by lia) bp
     have h2:(w:Int) * Bd w (s - 1)<=(w:Int) * Bd w (ls.length - 1):=Int.mul_le_mul_of_nonneg_left (Vm (by lia) (by lia)) (by lia)
     lia
    have hmul:∀ k:Nat,((k + 1:Nat):Int) * Bd w (s - 1)=(k:Int) * Bd w (s - 1) + Bd w (s - 1):=fun k=>by push_cast; rw [Int.add_mul,Int.one_mul]
    simp only [cL,wSs,wS,wE,wEs,List.set,List.getElem?_cons_zero,List.getElem?_cons_succ]
    refine ⟨bk,bv,μ.length,f + s,F,ks,vs,_,rfl,hF,eF,hT,by lia,fun e r q=>⟨by have:=(hE e r q).1.1; lia,(hE e r q).1.2⟩,fun a e r t q1 q2 q3 q4=>?_,fun DQ vs2 F2 ν2 q1 q2 q3=>?_⟩
    ·have h1:=(hE a r q1).2
     have h2:=vb a e t (hE a r q1).1.1 q4 q2
     have h3:=hup (i + 1) (by lia)
     rw [hmul] at h3
     lia
    ·rw [vD]
     refine hM _ _ ⟨i + 1,DQ,vs2,F2,ν' ++ ν2,_,by lia,rfl,rfl,q1,.succ hX q2,fun e r q=>?_⟩
     rcases q2.src e r q with q | ⟨a,r',t,p1,p2,p3,p4,rfl⟩
     ·have:=hE e r q
      refine ⟨this.1,?_⟩
      rw [hmul]; lia
     ·have h1:=hE a r' p1
      have h2:=vb a e t h1.1.1 p4 p2
      refine ⟨by lia,?_⟩
      rw [hmul]; lia
   ·rintro ρ μ' ⟨i,bk,bv,F,ν',v7,hi,rfl,rfl,hF,hX,hE⟩
    have hi:i=w:=by simpa using hi
    subst hi
    refine ⟨trivial,?_⟩
    have hlen:ks.length < lim:=by simp only [lim]; lia
    have hkey:fB [D.int (f:Int),D.int ((f + s:Nat):Int)]=some [.inl (f:Int),.inl ((f + s:Nat):Int)]:=rfl
    have hll:([D.int (f:Int),D.int ((f + s:Nat):Int)].length<=lim)=True:=by simp [lim]
    have fin:∀ t v7 v8,(s=1->t=0)->(2<=s->∃ F m,kI (tab ls.length V s f) (f + s:Nat) (iz f) i F/\F (f + s:Nat)=some m/\t=sm ls f s + m)->t<=Bd i s ->
      N' [some (.lst (ls.map D.int)),some (.int (i:Int)),some (.loc μ.length),some (.int (s:Int)),some (.int (f:Int)),some (.int ((f + s:Nat):Int)),some (.kZ bk bv),v7,v8] (μ ++ .bW (cB ks [.inl (f:Int),.inl ((f + s:Nat):Int)]) (dw ks vs [.inl (f:Int),.inl ((f + s:Nat):Int)] (.int t)) :: ν'):=fun t v7 v8 t1 t2 t3=>by
     refine hN' _ _ (nQ V f (f + s:Nat) t) _ _ _ _ _ _ ?_ (hV.put hs1 hfs t1 t2) (fun a b=>?_) ?_
     ·have e9:gZ (tab ls.length (nQ V f (f + s:Nat) t) s (f + 1))=fun x y=>if x=(f:Int)/\y=((f + s:Nat):Int) then some (.int t) else gZ (tab ls.length V s f) x y:=by
       rw [yG hs1 hfs]
       funext x y
       unfold gZ
       by_cases c:x=(f:Int)/\y=((f + s:Nat):Int)
       ·simp only [if_pos c,Option.map_some]
       ·simp only [if_neg c]
      rw [e9]
      exact hT.put _ _ _
     ·unfold nQ
      by_cases c:a=(f:Int)/\b=((f + s:Nat):Int)
      ·rw [if_pos c]
       obtain ⟨rfl,rfl⟩:=c
       rw [show (((f + s:Nat):Int) - (f:Int)).toNat=s by lia]
       exact t3
      ·rw [if_neg c]; exact hB a b
     ·have:=u9 (ks:=ks) (k:=[Sum.inl (f:Int),Sum.inl ((f + s:Nat):Int)])
      lia
    simp only [wSs,wS,wT,wE,wEs,cM,gK,List.set,List.getElem?_cons_zero,List.getElem?_cons_succ]
    by_cases c:(1:Int) < (s:Int)
    ·have hs2:2<=s:=by lia
     have k1:tab ls.length V s f f (f + 1:Nat)=some (V f (f + 1:Nat)):=by unfold tab; rw [if_pos (by push_cast; lia)]
     have k2:tab ls.length V s f (f + 1:Nat) (f + s:Nat)=some (V (f + 1:Nat) (f + s:Nat)):=by unfold tab; rw [if_pos (by push_cast; lia)]
     obtain ⟨m,hm⟩:=hX.two k1 k2 (by push_cast; lia) (by push_cast; lia) w2
     have hd:aH bk bv (.inl ((f + s:Nat):Int))=some (.int m):=by
      obtain ⟨_,_,_,_,q⟩:=hF
      rw [q]; unfold jf; rw [hm]; rfl
     have hme:=(hE _ _ hm).2
     simp only [decide_eq_true c,if_true,wSs,wS,wE,wEs,wO,DX,Ia,newL,rE,je,hd,aV,aG,Option.bind_some,GJ hfs,gO,List.set,List.getElem?_cons_zero,List.getElem?_cons_succ,hll,jH,eF,m6,hkey,true_and]
     refine ⟨by simp [lim],hlen,?_⟩
     refine fin (m + ((ls.drop f).take s).sum) _ _ (fun z=>by lia) (fun _=>⟨F,m,hX,hm,by unfold sm; lia⟩) ?_
     have h5:=Y7 hls f s
     unfold sm at h5
     obtain ⟨s',rfl⟩:∃ s',s=s' + 2:=⟨s - 2,by lia⟩
     have h6:Bd i (s' + 2)=((s':Int) + 2) * 1000000 + (i:Int) * Bd i (s' + 1):=rfl
     have h7:s' + 2 - 1=s' + 1:=rfl
     rw [h7] at hme
     rw [h6]
     push_cast at h5 ⊢
     lia
    ·simp only [decide_eq_false c,Bool.false_eq_true,if_false,wSs,wS,wE,wEs,List.set,List.getElem?_cons_zero,List.getElem?_cons_succ,hll,jH,eF,m6,hkey,true_and]
     exact ⟨by simp [lim],hlen,fin 0 _ _ (fun _=>rfl) (fun z=>by lia) (vO _ _)⟩
   ·have e9:jf (iz f)=fun e=>if e=(f:Int) then some (.int 0) else none:=by
     funext e
     unfold jf iz
     by_cases c:e=(f:Int)
     ·simp [c]
     ·simp [c]
    rw [e9]
    exact d7.one _ _
   ·intro e r q
    unfold iz at q
    by_cases c:e=(f:Int)
    ·rw [if_pos c] at q; cases q
     refine ⟨by push_cast; lia,by simp⟩
    ·rw [if_neg c] at q; cases q
  ·rintro ρ μ' ⟨f,ks,vs,V,ν,v4,v5,v6,v7,v8,e2,rfl,rfl,hT,hV,hB,hk,hfn⟩
   have hf:=fM e2
   have hk2:ks.length<=60 * s + f:=hk
   refine ⟨trivial,hN _ _ V _ _ _ _ _ _ _ ?_ (hV.next (by lia)) hB ?_⟩
   ·rw [<- ud (f:=f) (by lia)]; exact hT
   ·lia
 ·rintro ρ μ' ⟨j,ks,vs,V,ν,v3,v4,v5,v6,v7,v8,e1,rfl,rfl,hT,hV,hB,hk,hjn⟩
  have hj:=fM e1
  refine ⟨trivial,?_⟩
  simp only [List.getElem?_cons_zero,List.getElem?_cons_succ]
  have ej:1 + j=ls.length + 1:=by lia
  rw [ej] at hT hV
  exact h V ks vs ν hV hT
 ·have e9:gZ (tab ls.length (fun _ _=>0) (1 + 0) 0)=fun _ _=>none:=by
   funext a b
   unfold gZ tab
   rw [if_neg (by push_cast; lia)]
   rfl
  rw [e9]
  exact cV.nil
 ·intro s' f' a1 a2 a3
  lia
noncomputable def itv (a b:Int):List Int:=(List.range (b - a).toNat).map fun (k:Nat)=>a + (k:Int)
theorem Ck {f a b:Int} (h1:f<=a) (h2:a<=b):itv f a ++ itv a b=itv f b:=by
 unfold itv
 have e:(b - f).toNat=(a - f).toNat + (b - a).toNat:=by lia
 rw [e,List.range_add,List.map_append,List.map_map]
 congr 1
 refine List.map_congr_left fun k _=>?_
 simp only [Function.comp_apply]
 push_cast
 lia
structure Pk (ls:List Int) (w:Nat) (a b:Int) (x:Int×D):Prop where
 ord:Ww x.2=itv a b
 wid:wdB w x.2=true
 pl:plB ls.length x.2=true
 mov:Zx ls x.2=x.1
theorem xu (ls:List Int):∀ as bs:List D,lW ls (as ++ bs)=lW ls as + lW ls bs
 | [],bs=>by simp [lW]
 | a :: as,bs=>by rw [List.cons_append,lW,lW,xu ls as bs]; lia
theorem Ch.ok {ls:List Int} {w:Nat} {K:KP} {f e:Int} {n:Nat} {x:Int×List D} (hK:∀ a b z,K a b=some z->Pk ls w a b z) (h:Ch K f n e x) :
  f<=e/\kW x.2=itv f e/\vW w x.2=true/\wA ls.length x.2=true/\lW ls x.2=x.1/\(x.2=[]->e=f)/\(x.2.length=1->∃ z,K f e=some z):=by
 induction h with
 | nil=>exact ⟨Int.le_refl _,by simp [kW,itv],rfl,rfl,rfl,fun _=>rfl,fun z=>by simp at z⟩
 | snoc h1 h2 h3 ih =>
  obtain ⟨i0,i1,i2,i3,i4,i5,i6⟩:=ih
  rename_i y z
  have p:=hK _ _ _ h2
  refine ⟨by lia,?_,?_,?_,?_,fun q=>by simp at q,fun q=>?_⟩
  ·rw [Vh.xq,i1]
   simp only [kW,List.append_nil]
   rw [p.ord]
   exact Ck i0 (by lia)
  ·rw [Ak,i2]; simp [vW,p.wid]
  ·rw [Bt,i3]; simp [wA,p.pl]
  ·rw [xu,i4]; simp [lW,p.mov]
  ·have:y.2=[]:=by
    have:y.2.length=0:=by simpa using q
    exact List.length_eq_zero_iff.mp this
   have:=i5 this
   subst this
   exact ⟨_,h2⟩
theorem GD {ls:List Int}:∀ (s f:Nat),f + s<=ls.length->((itv f (f + s:Nat)).map (Tc ls)).sum=sm ls f s
 | 0,f,h=>by simp [itv,sm]
 | s + 1,f,h=>by
  have e:itv (f:Int) ((f + (s + 1):Nat):Int)=(f:Int) :: itv ((f + 1:Nat):Int) ((f + 1 + s:Nat):Int):=by
   rw [<- Ck (a:=((f + 1:Nat):Int)) (by push_cast; lia) (by push_cast; lia)]
   have:itv (f:Int) ((f + 1:Nat):Int)=[(f:Int)]:=by
    unfold itv
    rw [show (((f + 1:Nat):Int) - (f:Int)).toNat=1 by lia]
    simp
   rw [this,show f + (s + 1)=f + 1 + s by lia]
   rfl
  rw [e,List.map_cons,List.sum_cons,GD s (f + 1) (by lia)]
  unfold sm
  have hf:f < ls.length:=by lia
  rw [List.drop_eq_getElem_cons hf,List.take_succ_cons,List.sum_cons]
  simp [Tc,hf]
theorem Pk.new {ls:List Int} {w s f n:Nat} {K:KP} {x:Int×List D} (hK:∀ a b z,K a b=some z->Pk ls w a b z) (h:Ch K f n (f + s:Nat) x) (hn:n<=w) (hs:1<=s) (hf:f + s<=ls.length) (hno:K f (f + s:Nat)=none) :
  Pk ls w f (f + s:Nat) (sm ls f s + x.1,.tup x.2):=by
 obtain ⟨i0,i1,i2,i3,i4,i5,i6⟩:=h.ok hK
 have hl:=h.len
 have h0:x.2≠[]:=fun q=>by have:=i5 q; push_cast at this; lia
 have h1:x.2.length≠1:=fun q=>by obtain ⟨z,hz⟩:=i6 q; rw [hno] at hz; cases hz
 have h2:2<=x.2.length:=by
  have:x.2.length≠0:=fun q=>h0 (List.length_eq_zero_iff.mp q)
  lia
 refine ⟨?_,?_,?_,?_⟩
 ·show kW x.2=_; exact i1
 ·show (vW w x.2 && decide (2<=x.2.length/\x.2.length<=w))=true
  rw [i2]; simp; lia
 ·show (wA ls.length x.2 && !x.2.isEmpty)=true
  rw [i3]; simp [h0]
 ·show ((kW x.2).map (Tc ls)).sum + lW ls x.2=_
  rw [i1,GD s f hf,i4]
theorem Pk.one {ls:List Int} {w f:Nat} (hf:f < ls.length):Pk ls w f (f + 1:Nat) (0,.int f):=by
 refine ⟨?_,rfl,?_,rfl⟩
 ·show [(f:Int)]=itv f (f + 1:Nat)
  unfold itv
  rw [show (((f + 1:Nat):Int) - (f:Int)).toNat=1 by lia]
  simp
 ·show decide (0<=(f:Int)/\(f:Int) < (ls.length:Int))=true
  simp; lia
noncomputable def Wd (X:List (List aC)×List D) (a b:Int) (v:D):List (List aC)×List D:=(cB X.1 [.inl a,.inl b],dw X.1 X.2 [.inl a,.inl b] v)
noncomputable def Nz (n:Nat):List (List aC)×List D:=(List.range n).foldl (fun X (f:Nat)=>Wd X f (f + 1:Nat) (.tup [.int 0,.int f])) ([],[])
noncomputable def R5 (ls:List Int) (w s f:Nat) (X:List (List aC)×List D):List (List aC)×List D :=
 match lpX X.1 X.2 f (f + s:Nat) w with
 | some (.tup [.int m,q])=>Wd X f (f + s:Nat) (.tup [.int (sm ls f s + m),q])
 | _=>X
noncomputable def Js (ls:List Int) (w s:Nat) (X:List (List aC)×List D):List (List aC)×List D:=(List.range (ls.length - s + 1)).foldl (fun X (f:Nat)=>R5 ls w s f X) X
noncomputable def ZC (ls:List Int) (w:Nat):List (List aC)×List D:=(List.range (ls.length - 1)).foldl (fun X (j:Nat)=>Js ls w (2 + j) X) (Nz ls.length)
noncomputable def bO:iZ:=fun ds μ Q=>∃ (ls:List Int) (w:Nat),ds=[.lst (ls.map D.int),.int (w:Int)]/\1<=ls.length/\ls.length<=12/\2<=w/\w<=8 /\
 ∀ V ks vs (K:KP) ν,(ks,vs)=ZC ls w->cP ls w V (ls.length + 1) 0->cV ks vs (DP K)->rJ K=tab ls.length V (ls.length + 1) 0->(∀ a b z,K a b=some z->Pk ls w a b z)->Q (.loc μ.length) (μ ++ .bW ks vs :: ν)
noncomputable def cu:List Str:=["lengths","width","known","first","size","behind","parting"]
noncomputable def cA:Ss:=(.cons (.set 2 (.Dc true)) (.cons (.for_ [3] false (.rng (.cons (.blt "len" (.cons (.var 0) .nil)) .nil)) (.cons (.dput (.var 2) (.tup (.cons (.var 3) (.cons (.bin .Add (.var 3) (.cst (.int 1))) .nil))) (.tup (.cons (.cst (.int 0)) (.cons (.var 3) .nil)))) .nil)) (.cons (.for_ [4] false (.rng (.cons (.cst (.int 2)) (.cons (.bin .Add (.blt "len" (.cons (.var 0) .nil)) (.cst (.int 1))) .nil))) (.cons (.for_ [3] false (.rng (.cons (.bin .Add (.bin .Sub (.blt "len" (.cons (.var 0) .nil)) (.var 4)) (.cst (.int 1))) .nil)) (.cons (.set 5 (.bin .Add (.var 3) (.var 4))) (.cons (.set 6 (.call "least_parting" dB (.cons (.var 3) (.cons (.var 5) (.cons (.var 1) (.cons (.var 2) .nil)))))) (.cons (.dput (.var 2) (.tup (.cons (.var 3) (.cons (.var 5) .nil))) (.tup (.cons (.bin .Add (.blt "sum" (.cons (.slc false (.var 0) (.cons (.var 3) .nil) (.cons (.var 5) .nil)) .nil)) (.idx (.var 6) (.cst (.int 0)))) (.cons (.idx (.var 6) (.cst (.int 1))) .nil)))) .nil)))) .nil)) (.cons (.ret (.var 2)) .nil))))
noncomputable def Aw (K:KP) (f b:Int) (z:Int×D):KP:=fun x y=>if x=f/\y=b then some z else K x y
theorem Hi {K:KP} {f b:Int} {z:Int×D}:DP (Aw K f b z)=fun x y=>if x=f/\y=b then some (kv z) else DP K x y:=by
 funext x y
 unfold DP Aw
 by_cases c:x=f/\y=b
 ·simp only [if_pos c,Option.map_some]
 ·simp only [if_neg c]
theorem Hu {K:KP} {f b:Int} {z:Int×D}:rJ (Aw K f b z)=fun x y=>if x=f/\y=b then some z.1 else rJ K x y:=by
 funext x y
 unfold rJ Aw
 by_cases c:x=f/\y=b
 ·simp only [if_pos c,Option.map_some]
 ·simp only [if_neg c]
theorem Oq {K:KP} {a b:Int} (h:rJ K a b=none):K a b=none:=by
 unfold rJ at h
 cases q:K a b with
 | none=>rfl
 | some x=>rw [q] at h; cases h
theorem Ot {K:KP} {a b t:Int} (h:rJ K a b=some t):∃ x,K a b=some x:=by
 unfold rJ at h
 cases q:K a b with
 | none=>rw [q] at h; cases h
 | some x=>exact ⟨x,rfl⟩
theorem mD:Keeps cu cA bO:=by
 rintro ds μ Q ⟨ls,w,rfl,n1,n12,w2,w8,h⟩
 simp only [cA,cu,aL,iB,wSs,wS,wE,wEs,wI,aV,lenOf,aG,gO,gB,lq,List.map_cons,List.map_nil,List.length_cons,List.length_nil,List.length_map,List.cons_append,List.nil_append,List.getElem?_cons_zero,List.getElem?_cons_succ,Nat.reduceAdd,Nat.reduceSub,List.replicate,List.set,if_true,Option.map_some]
 refine ⟨by simp only [lim]; lia,by lia,?_⟩
 refine aU (fun ds ρ μ'=>∃ (f:Nat) (ks:List (List aC)) (vs:List D) (V:Int->Int->Int) (K:KP) (v3 v4 v5 v6:Option D),ds=aM (0 + f) ((ls.length:Int) - 0 - f).toNat/\ρ=[some (.lst (ls.map D.int)),some (.int (w:Int)),some (.loc μ.length),v3,v4,v5,v6]/\μ'=μ ++ .bW ks vs :: [] /\
   cV ks vs (DP K)/\rJ K=tab ls.length V 1 f/\cP ls w V 1 f/\(∀ a b z,K a b=some z->Pk ls w a b z)/\ks.length<=f/\f<=ls.length/\(ks,vs)=(List.range f).foldl (fun X (f:Nat)=>Wd X f (f + 1:Nat) (.tup [.int 0,.int f])) ([],[])) ?_ ?_ _ _ _
  ⟨0,[],[],fun _ _=>0,fun _ _=>none,none,none,none,none,by simp [aM],rfl,rfl,cV.nil,?_,fun s' f' a1 a2 a3=>by lia,(fun a b z q=>by cases q),by simp,by lia,rfl⟩
 ·rintro d ds ρ μ' N hN ⟨f,ks,vs,V,K,v3,v4,v5,v6,e1,rfl,rfl,hT,hK,hV,hP,hk,hfn,hX⟩
  refine ⟨trivial,?_⟩
  obtain ⟨rfl,hf,rfl⟩:=iK e1
  have ef:(0:Int) + (f:Int)=(f:Int):=by lia
  rw [ef] at hf ⊢
  have eb:(f:Int) + 1=((f + 1:Nat):Int):=by push_cast; rfl
  have hfl:f + 1<=ls.length:=by lia
  have hkey:fB [D.int (f:Int),D.int ((f + 1:Nat):Int)]=some [.inl (f:Int),.inl ((f + 1:Nat):Int)]:=rfl
  have hll:([D.int (f:Int),D.int ((f + 1:Nat):Int)].length<=lim)=True:=by simp [lim]
  simp only [cL,wSs,wS,wE,wEs,gO,List.set,List.getElem?_cons_zero,List.getElem?_cons_succ,eb,jH,eF,m6,hkey,hll,true_and]
  refine ⟨by simp [lim],by simp [lim],by simp only [lim]; lia,?_⟩
  refine hN _ _ ⟨f + 1,_,_,nQ V f (f + 1:Nat) 0,Aw K f (f + 1:Nat) (0,.int f),_,_,_,_,rfl,rfl,rfl,?_,?_,hV.put (s:=1) (by lia) hfl (fun _=>rfl) (fun z=>by lia),fun a b z q=>?_,?_,hfl,?_⟩
  ·rw [Hi]; exact hT.put _ _ _
  ·rw [Hu,hK,yG (s:=1) (by lia) hfl]
  ·unfold Aw at q
   by_cases c:a=(f:Int)/\b=((f + 1:Nat):Int)
   ·rw [if_pos c] at q; cases q
    obtain ⟨rfl,rfl⟩:=c
    exact Pk.one (by lia)
   ·rw [if_neg c] at q; exact hP a b z q
  ·have:=u9 (ks:=ks) (k:=[Sum.inl (f:Int),Sum.inl ((f + 1:Nat):Int)])
   lia
  ·rw [List.range_succ,List.foldl_append,<- hX]; rfl
 ·rintro ρ μ' ⟨f,ks,vs,V,K,v3,v4,v5,v6,e1,rfl,rfl,hT,hK,hV,hP,hk,hfn,hX⟩
  have hf:=fM e1
  have ef:f=ls.length:=by lia
  subst ef
  refine ⟨trivial,?_⟩
  rw [ud (by lia)] at hK
  have hV:=hV.next (by lia)
  replace hX:(ks,vs)=Nz ls.length:=hX
  simp only [wI,wE,wEs,aV,lenOf,aG,gO,gB,lq,List.length_cons,List.length_nil,List.length_map,List.getElem?_cons_zero,List.getElem?_cons_succ,Nat.reduceAdd,Option.map_some]
  refine ⟨⟨by simp only [lim]; lia,by lia,by lia,by lia,by lia⟩,?_⟩
  refine aU (fun ds ρ μ'=>∃ (j:Nat) (ks:List (List aC)) (vs:List D) (V:Int->Int->Int) (K:KP) (ν:Mem) (v3 v4 v5 v6:Option D),ds=aM (2 + j) ((ls.length:Int) + 1 - 2 - j).toNat/\ρ=[some (.lst (ls.map D.int)),some (.int (w:Int)),some (.loc μ.length),v3,v4,v5,v6]/\μ'=μ ++ .bW ks vs :: ν /\
    cV ks vs (DP K)/\rJ K=tab ls.length V (2 + j) 0/\cP ls w V (2 + j) 0/\(∀ a b z,K a b=some z->Pk ls w a b z)/\ks.length<=60 * (1 + j)/\1 + j<=ls.length/\(ks,vs)=(List.range j).foldl (fun X (j:Nat)=>Js ls w (2 + j) X) (Nz ls.length)) ?_ ?_ _ _ _
   ⟨0,ks,vs,V,K,[],v3,v4,v5,v6,by simp,rfl,rfl,hT,hK,hV,hP,by lia,by lia,hX⟩
  ·rintro d ds ρ μ' N hN ⟨j,ks,vs,V,K,ν,v3,v4,v5,v6,e1,rfl,rfl,hT,hK,hV,hP,hk,hjn,hX⟩
   refine ⟨trivial,?_⟩
   obtain ⟨rfl,hj,rfl⟩:=iK e1
   have es:(2:Int) + (j:Int)=((2 + j:Nat):Int):=by push_cast; rfl
   have hN:∀ ks vs V K ν v3 v4 v5 v6,cV ks vs (DP K)->rJ K=tab ls.length V (2 + j + 1) 0->cP ls w V (2 + j + 1) 0->(∀ a b z,K a b=some z->Pk ls w a b z)->ks.length<=60 * (1 + (j + 1))->(ks,vs)=(List.range (j + 1)).foldl (fun X (j:Nat)=>Js ls w (2 + j) X) (Nz ls.length) ->
     N [some (.lst (ls.map D.int)),some (.int (w:Int)),some (.loc μ.length),v3,v4,v5,v6] (μ ++ .bW ks vs :: ν):=fun ks vs V K ν v3 v4 v5 v6 q1 q2 q3 q4 q5 q6=>hN _ _ ⟨j + 1,ks,vs,V,K,ν,v3,v4,v5,v6,rfl,rfl,rfl,q1,q2,q3,q4,q5,by lia,q6⟩
   rw [es] at hj ⊢
   obtain ⟨X0,Xv⟩:∃ X0,(ks,vs)=X0:=⟨_,rfl⟩
   have hX1:(List.range (j + 1)).foldl (fun X (j:Nat)=>Js ls w (2 + j) X) (Nz ls.length)=Js ls w (2 + j) X0:=by rw [List.range_succ,List.foldl_append,<- hX,Xv]; rfl
   rw [hX1] at hN
   have abK:60 * (1 + (j + 1))=60 * (2 + j):=by lia
   rw [abK] at hN
   generalize hs:2 + j=s at *
   have hs2:2<=s:=by lia
   simp only [cL,wSs,wS,wE,wEs,wI,aV,lenOf,aG,gO,gB,lq,List.length_cons,List.length_nil,List.length_map,List.getElem?_cons_zero,List.getElem?_cons_succ,Nat.reduceAdd,List.set,Option.map_some]
   refine ⟨by simp only [lim]; lia,by lia,?_⟩
   refine aU (fun ds ρ μ'=>∃ (f:Nat) (ks:List (List aC)) (vs:List D) (V:Int->Int->Int) (K:KP) (ν:Mem) (v3 v5 v6:Option D),ds=aM (0 + f) ((ls.length:Int) - s + 1 - 0 - f).toNat/\ρ=[some (.lst (ls.map D.int)),some (.int (w:Int)),some (.loc μ.length),v3,some (.int (s:Int)),v5,v6]/\μ'=μ ++ .bW ks vs :: ν /\
     cV ks vs (DP K)/\rJ K=tab ls.length V s f/\cP ls w V s f/\(∀ a b z,K a b=some z->Pk ls w a b z)/\ks.length<=60 * (s - 1) + f/\f + s<=ls.length + 1/\(ks,vs)=(List.range f).foldl (fun X (f:Nat)=>R5 ls w s f X) X0) ?_ ?_ _ _ _ ⟨0,ks,vs,V,K,ν,v3,v5,v6,by simp,rfl,rfl,hT,hK,hV,hP,by lia,by lia,Xv⟩
   ·rintro d ds ρ μ' N' hN' ⟨f,ks,vs,V,K,ν,v3,v5,v6,e2,rfl,rfl,hT,hK,hV,hP,hk,hfn,hX⟩
    refine ⟨trivial,?_⟩
    obtain ⟨rfl,hf,rfl⟩:=iK e2
    have ef:(0:Int) + (f:Int)=(f:Int):=by lia
    rw [ef] at hf ⊢
    have hfs:f + s<=ls.length:=by lia
    have eb:(f:Int) + (s:Int)=((f + s:Nat):Int):=by push_cast; rfl
    have k1:rJ K f (f + 1:Nat)=some (V f (f + 1:Nat)):=by rw [hK]; unfold tab; rw [if_pos (by push_cast; lia)]
    have k2:rJ K (f + 1:Nat) (f + s:Nat)=some (V (f + 1:Nat) (f + s:Nat)):=by rw [hK]; unfold tab; rw [if_pos (by push_cast; lia)]
    have k3:K f (f + s:Nat)=none:=Oq (by rw [hK]; unfold tab; rw [if_neg (by push_cast; lia)])
    obtain ⟨z1,hz1⟩:=Ot k1
    obtain ⟨z2,hz2⟩:=Ot k2
    have hkey:fB [D.int (f:Int),D.int ((f + s:Nat):Int)]=some [.inl (f:Int),.inl ((f + s:Nat):Int)]:=rfl
    have hll:([D.int (f:Int),D.int ((f + s:Nat):Int)].length<=lim)=True:=by simp [lim]
    simp only [cL,wSs,wS,wE,wEs,gO,List.set,List.getElem?_cons_zero,List.getElem?_cons_succ,eb]
    refine ⟨f,f + s,w,μ.length,ks,vs,K,((f + 1:Nat):Int),z1,z2,rfl,eF,hT,by lia,w2,w8,by lia,hz1,hz2,by push_cast; lia,by push_cast; lia,fun x F ν2 q0 q1 q2 q3=>?_⟩
    rw [vD]
    have x0:∀ x y:D,(([x,y]:List D).length)=2:=fun _ _=>rfl
    have i0:wF 2 0=some 0:=by decide
    have i1:wF 2 1=some 1:=by decide
    simp only [pv,wSs,wS,wE,wEs,wO,DX,Ia,newL,aV,aG,nq,x0,i0,i1,Option.bind_some,GJ hfs,gO,List.set,List.getElem?_cons_zero,List.getElem?_cons_succ,hll,jH,eF,m6,hkey,true_and]
    refine ⟨by simp [lim],by simp [lim],by simp only [lim]; lia,?_⟩
    have hpk:=Pk.new hP q3 (Nat.le_refl w) (by lia) hfs k3
    rw [hK] at q1
    refine hN' _ _ ⟨f + 1,_,_,nQ V f (f + s:Nat) (sm ls f s + x.1),Aw K f (f + s:Nat) (sm ls f s + x.1,.tup x.2),_,_,_,_,rfl,rfl,rfl,?_,?_,hV.put (by lia) hfs (fun z=>by lia) (fun _=>⟨F,x.1,q1,q2,rfl⟩),fun a b z q=>?_,?_,by lia,?_⟩
    ·rw [Hi]; exact hT.put _ _ _
    ·rw [Hu,hK,yG (by lia) hfs]
    ·unfold Aw at q
     by_cases c:a=(f:Int)/\b=((f + s:Nat):Int)
     ·rw [if_pos c] at q; cases q
      obtain ⟨rfl,rfl⟩:=c
      exact hpk
     ·rw [if_neg c] at q; exact hP a b z q
    ·have:=u9 (ks:=ks) (k:=[Sum.inl (f:Int),Sum.inl ((f + s:Nat):Int)])
     lia
    ·rw [List.range_succ,List.foldl_append,<- hX]
     show _=R5 ls w s f (ks,vs)
     unfold R5
     rw [q0]
     rfl
   ·rintro ρ μ' ⟨f,ks,vs,V,K,ν,v3,v5,v6,e2,rfl,rfl,hT,hK,hV,hP,hk,hfn,hX⟩
    have hf:=fM e2
    refine ⟨trivial,hN _ _ V K _ _ _ _ _ hT ?_ (hV.next (by lia)) hP (by lia) ?_⟩
    ·rw [<- ud (f:=f) (by lia)]; exact hK
    ·rw [hX]; unfold Js; rw [show ls.length - s + 1=f by lia]
  ·rintro ρ μ' ⟨j,ks,vs,V,K,ν,v3,v4,v5,v6,e1,rfl,rfl,hT,hK,hV,hP,hk,hjn,hX⟩
   have hj:=fM e1
   refine ⟨trivial,?_⟩
   have ej:2 + j=ls.length + 1:=by lia
   rw [ej] at hK hV
   simp only [wSs,wS,wE,List.getElem?_cons_zero,List.getElem?_cons_succ]
   refine h V ks vs K ν ?_ hV hT hK hP
   rw [hX]; unfold ZC; rw [show ls.length - 1=j by lia]
 ·funext a b
  unfold rJ tab
  rw [if_neg (by push_cast; lia)]
  rfl
end DW.TBL
end
section
namespace DW.lK
open PySem DW DW.Qk DW.Vh DW.Yw DW.TBL
theorem sub_len {α:Type} [DecidableEq α]:∀ {l m:List α},l.Nodup->(∀ x∈l,x∈m)->l.length<=m.length
 | [],_,_,_=>Nat.zero_le _
 | x :: l,m,hn,hs=>by
  rw [List.nodup_cons] at hn
  have hx:=hs x (by simp)
  have h1:=sub_len (l:=l) (m:=m.erase x) hn.2 fun y hy=>by
   exact (List.mem_erase_of_ne (fun e:y=x=>hn.1 (e ▸ hy))).mpr (hs y (by simp [hy]))
  rw [List.length_erase_of_mem hx] at h1
  have:0 < m.length:=List.length_pos_of_mem hx
  simp only [List.length_cons]
  lia
theorem zT {ks:List (List aC)} {vs:List D} {G:Int->Int->Option D} (h:cV ks vs G) (a b:Int):[.inl a,.inl b]∈ks<->(G a b).isSome=true:=by
 rw [<- h.has,mF]
theorem OD {ks ls:List (List aC)} {vs us:List D} {G:Int->Int->Option D} (h:cV ks vs G) (h':cV ls us G):ks.length=ls.length:=by
 have go:∀ {ks ls:List (List aC)} {vs us:List D},cV ks vs G->cV ls us G->ks.length<=ls.length:=fun {ks ls vs us} h h'=>by
  refine sub_len h.1.2.1 fun k hk=>?_
  obtain ⟨a,b,rfl⟩:=h.1.2.2 k hk
  rw [zT h'] 
  exact (zT h a b).mp hk
 exact Nat.le_antisymm (go h h') (go h' h)
theorem Dd {κ:Type} [DecidableEq κ]:∀ {ks:List κ} {ds:List D} {i:Nat} {k:κ} {d:D},ks.Nodup->ks[i]? = some k->ds[i]? = some d->aH ks ds k=some d
 | [],ds,i,k,d,_,h,_=>by simp at h
 | k' :: ks,[],i,k,d,_,_,h=>by simp at h
 | k' :: ks,d' :: ds,0,k,d,_,h1,h2=>by simp at h1 h2; subst h1 h2; simp [aH]
 | k' :: ks,d' :: ds,i + 1,k,d,hn,h1,h2=>by
  rw [List.nodup_cons] at hn
  simp only [List.getElem?_cons_succ] at h1 h2
  have:k'≠k:=fun e=>hn.1 (e ▸ List.mem_of_getElem? h1)
  unfold aH
  rw [if_neg this]
  exact Dd hn.2 h1 h2
theorem xV {κ:Type} [DecidableEq κ] (f:D->D):∀ (ks:List κ) (ds:List D) (k:κ),aH ks (ds.map f) k=(aH ks ds k).map f
 | [],ds,k=>by cases ds <;> rfl
 | k' :: ks,[],k=>rfl
 | k' :: ks,d :: ds,k=>by
  simp only [List.map_cons,aH]
  split
  ·rfl
  ·exact xV f ks ds k
noncomputable def Cv:List aC->List Int:=fun k=>k.map fun x=>match x with | .inl i=>i | .inr _=>0
theorem yW {ks:List (List aC)} (h:P2 ks):ks=(ks.map Cv).map (fun l=>l.map Sum.inl):=by
 rw [List.map_map]
 conv=>lhs; rw [<- List.map_id ks]
 refine List.map_congr_left fun k hk=>?_
 obtain ⟨a,b,rfl⟩:=h.2 k hk
 rfl
theorem uc {ls:List Int} {w:Nat} {V V':Int->Int->Int} (h:cP ls w V (ls.length + 1) 0) (h':cP ls w V' (ls.length + 1) 0):tab ls.length V (ls.length + 1) 0=tab ls.length V' (ls.length + 1) 0:=by
 funext a b
 unfold tab
 split
 ·rename_i q
  obtain ⟨q1,q2,q3,q4⟩:=q
  obtain ⟨f,rfl⟩:∃ f:Nat,a=(f:Int):=⟨a.toNat,by lia⟩
  obtain ⟨s,hs⟩:∃ s:Nat,b=((f + s:Nat):Int):=⟨(b - f).toNat,by lia⟩
  rw [hs]
  rw [h.uniq h' s f (by lia) (by lia) (by lia)]
 ·rfl
noncomputable def aa1:List Nat:=[97,32,119,105,100,116,104,32,105,115,32,97,32,119,104,111,108,101,32,110,117,109,98,101,114,32,102,114,111,109,32]
noncomputable def Le:Ss:=.cons (.Je "NoWidth" (.cons (.U9 aa1 [32,116,111,32] "LEAST_WIDTH" (2) "MOST_WIDTH" (8)) .nil)) .nil
noncomputable def uN (μ:Mem):D->Prop
 | .int i=>i < 2∨8 < i
 | .loc n=>q8 μ n=true
 | .ro _=>False
 | .cH _ _=>False
 | .kZ _ _=>False
 | _=>True
theorem uN.app {μ:Mem} {d:D} (h:uN μ d) (ν:Mem):uN (μ ++ ν) d:=by
 cases d with
 | loc n =>
  obtain ⟨ks,ds,e⟩:=XM (show q8 μ n=true from h)
  show q8 (μ ++ ν) n=true
  unfold q8
  rw [fZ e]
 | _=>exact h
noncomputable def bM:iY:=fun ds μ Q X=>(∃ m:Int,ds=[.int m]/\2<=m/\m<=8/\Q .non μ)∨(∃ d,ds=[d]/\uN μ d/\X "NoWidth" [] [] μ)
noncomputable def iC:iY:=fun ds μ Q X=>(∃ (ls:List Int) (w:Nat),ds=[.lst (ls.map D.int),.int (w:Int)]/\1<=ls.length/\ls.length<=12/\2<=w/\w<=8/\∀ V ks vs ν,cP ls w V (ls.length + 1) 0->cV ks vs (gZ (tab ls.length V (ls.length + 1) 0))->Q (.loc μ.length) (μ ++ .bW ks vs :: ν))∨(∃ a b,ds=[a,b]/\uN μ b/\X "NoWidth" [] [] μ)
noncomputable def gj:iY:=fun ds μ Q X=>(∃ (n:Nat) (o:Obj) (ls:List Int) (w:Nat) (V:Int->Int->Int) (ks:List (List aC)) (vs:List D),ds=[.loc n,.lst (ls.map D.int),.int (w:Int)]/\1<=ls.length/\ls.length<=12/\2<=w/\w<=8/\μ[n]? = some (.jG o ks vs)/\cP ls w V (ls.length + 1) 0/\cV ks vs (gZ (tab ls.length V (ls.length + 1) 0))/\∀ ν,Q (.bl true) (μ ++ ν))∨(∃ a b e,ds=[a,b,e]/\uN μ e/\X "NoWidth" [] [] μ)
noncomputable def cW:iY:=fun ds μ Q X=>(∃ (a b:D),ds=[a,b]/\False)∨(∃ (a b:D),ds=[a,b]/\uN μ b/\X "NoWidth" [] [] μ)
noncomputable def dD:iY:=fun ds μ Q X=>(∃ (a b:D),ds=[a,b]/\False)∨(∃ (a b:D),ds=[a,b]/\uN μ b/\X "NoWidth" [] [] μ)
noncomputable def fX:iY:=fun ds μ Q X=>(∃ (a b:D),ds=[a,b]/\False)∨(∃ (a b:D),ds=[a,b]/\uN μ b/\X "NoWidth" [] [] μ)
noncomputable def fY:iZ:=fun ds μ Q=>∃ a b:Int,ds=[tI [a,b]]/\Q (.bl true) μ
noncomputable def gQ:iZ:=fun ds μ Q=>∃ n:Nat,ds=[.loc n]/\gM μ n/\∀ d b,uN (bx (μ ++ [.cH [.inr [97]] [.int 3]]) n b) d->Q d (bx (μ ++ [.cH [.inr [97]] [.int 3]]) n b)
noncomputable def jh:iZ:=fun ds μ Q=>∃ (w:Nat) (l:List D) (d:D),ds=[.int (w:Int),.lst l,d]/\w < 5/\uN μ d/\∀ ν,Q (.bl true) (μ ++ ν)
noncomputable def cC:List Str:=["thing"]
noncomputable def dY:Ss:=(.cons (.ite (.or (.not (.call "is_whole" aQ (.cons (.var 0) .nil))) (.not (.chain .LtE .LtE (.Xw "LEAST_WIDTH" (.int 2)) (.var 0) (.Xw "MOST_WIDTH" (.int 8))))) Le .nil) .nil)
noncomputable def pO:List Str:=["lengths","width","told","stretch","least"]
noncomputable def pW:Ss:=(.cons (.p7 (.fn "check_width" bM (.cons (.var 1) .nil))) (.cons (.set 2 (.Dc true)) (.cons (.for_ [3,4] true (.enum (.bK (.call "least_of_stretches" bO (.cons (.var 0) (.cons (.var 1) .nil)))) true) (.cons (.dput (.var 2) (.var 3) (.idx (.var 4) (.cst (.int 0)))) .nil)) (.cons (.ret (.var 2)) .nil))))
noncomputable def dF:List Str:=["lengths","width"]
noncomputable def dG:Ss:=(.cons (.p7 (.fn "check_width" bM (.cons (.var 1) .nil))) (.cons .Kc .nil))
noncomputable def gY:List Str:=["thing"]
noncomputable def ig:Ss:=(.cons (.ret (.and (.isin (.var 0) "tuple") (.and (.cmp .Eq (.blt "len" (.cons (.var 0) .nil)) (.cst (.int 2))) (.and (.call "is_whole" aQ (.cons (.idx (.var 0) (.cst (.int 0))) .nil)) (.call "is_whole" aQ (.cons (.idx (.var 0) (.cst (.int 1))) .nil)))))) .nil)
noncomputable def iM:List Str:=["thing","lengths","width","right","key","number"]
noncomputable def tlT:Ss:=(.cons (.for_ [4,5] true (.enum (.var 0) true) (.cons (.ite (.or (.not (.call "is_stretch" fY (.cons (.var 4) .nil))) (.or (.not (.call "is_whole" aQ (.cons (.var 5) .nil))) (.cmp .NotEq (.Qa "get" (.var 3) (.cons (.var 4) .nil)) (.var 5)))) (.cons (.ret (.cst (.bl false))) .nil) .nil) .nil)) (.cons (.ret (.cst (.bl true))) .nil))
noncomputable def iU:Ss:=(.cons (.IV 3 (.fn "table" iC (.cons (.var 1) (.cons (.var 2) .nil)))) (.cons (.ite (.or (.not (.isin (.var 0) "dict")) (.cmp .NotEq (.blt "len" (.cons (.var 0) .nil)) (.blt "len" (.cons (.var 3) .nil)))) (.cons (.ret (.cst (.bl false))) .nil) .nil) tlT))
noncomputable def eE:List Str:=["many","width","told","reach"]
noncomputable def eO:Ss:=(.cons (.p7 (.fn "check_width" bM (.cons (.var 1) .nil))) (.cons .Kc (.cons .Kc (.cons .Kc (.cons .Kc .nil)))))
noncomputable def gW:List Str:=["many","width","plans"]
noncomputable def g8:Ss:=(.cons (.p7 (.fn "check_width" bM (.cons (.var 1) .nil))) (.cons .Kc (.cons .Kc (.cons .Kc .nil))))
noncomputable def jk:List Str:=["box","some"]
noncomputable def jl:Ss:=(.cons (.set 1 (.lst false (.cons (.cst (.int 0)) (.cons (.cst (.int 1)) (.cons (.cst (.int 9)) (.cons (.neg (.cst (.int 1))) (.cons (.cst .non) (.cons (.cst (.bl true)) (.cons (.cst (.bl false)) (.cons (.cst (.str [51])) (.cons (.tup (.cons (.cst (.int 3)) .nil)) (.cons (.lst false (.cons (.cst (.int 3)) .nil)) (.cons (.bin .Pow (.cst (.int 10)) (.cst (.int 39))) (.cons (.dsp [.inr [97]] (.cons (.cst (.int 3)) .nil)) .nil)))))))))))))) (.cons (.ret (.idx (.var 1) (.call "_law_take" cI (.cons (.var 0) (.cons (.cst (.int 12)) .nil))))) .nil))
noncomputable def c7:List Str:=["way","lengths","width","e"]
noncomputable def dj:Ss:=(.cons (.Ir "PourError" ["NoWidth"] 3 (.cons (.ite (.cmp .Eq (.var 0) (.cst (.int 0))) (.cons (.p7 (.fn "table" iC (.cons (.var 1) (.cons (.var 2) .nil)))) .nil) (.cons (.ite (.cmp .Eq (.var 0) (.cst (.int 1))) (.cons (.p7 (.fn "is_table" gj (.cons (.Dc true) (.cons (.var 1) (.cons (.var 2) .nil))))) .nil) (.cons (.ite (.cmp .Eq (.var 0) (.cst (.int 2))) (.cons (.p7 (.fn "neighbour_plan" cW (.cons (.var 1) (.cons (.var 2) .nil)))) .nil) (.cons (.ite (.cmp .Eq (.var 0) (.cst (.int 3))) (.cons (.p7 (.fn "fewest_passes" dD (.cons (.blt "len" (.cons (.var 1) .nil)) (.cons (.var 2) .nil)))) .nil) (.cons (.p7 (.fn "level_plan" fX (.cons (.blt "len" (.cons (.var 1) .nil)) (.cons (.var 2) .nil)))) .nil)) .nil)) .nil)) .nil)) .nil) (.cons (.ret (.and (.wG (.var 3) false ["NoWidth"] [("NoWidth",true)]) (.and (.wG (.var 3) false ["ValueError"] [("NoWidth",true)]) (.not (.wG (.var 3) false ["NoRoom"] [("NoWidth",false)]))))) .nil)) (.cons (.ret (.cst (.bl false))) .nil))
theorem Z9 {ρ:dI} {μ:Mem} {Z:jr} (h:Z.xc ρ "NoWidth" [] [] μ):wSs Le Z ρ μ:=by
 simp only [Le,wSs,wS,wEs,wE]
 have e3:iy 2=[50]:=by rfl
 have e6:iy 8=[56]:=by rfl
 rw [e3,e6]
 exact ⟨⟨by decide,by decide,by decide⟩,by simp [lim],h⟩
theorem wD:mU cC dY bM:=by
 rintro ds μ Q X (⟨i,rfl,h1,h2,h⟩ | ⟨d,rfl,hn,h⟩)
 ·simp [dY,cC,aL,lN,wSs,wS,wT,wE,wEs,aQ,jW,truth,cM,vR,gK,h1,h2]
  exact h
 ·have key:wSs Le (lN Q X) [some d] μ:=Z9 h
  simp only [dY]
  generalize Le=R at key
  cases d with
  | int i =>
   simp [cC,aL,wSs,wS,wT,wE,wEs,aQ,jW,truth,cM,vR,gK]
   have hn:i < 2∨8 < i:=hn
   by_cases c1:2<=i
   ·have c2:8 < i:=by lia
    rw [if_pos c1,if_pos c2]; exact key
   ·rw [if_neg c1]; exact key
  | ro _=>exact hn.elim
  | cH _ _=>exact hn.elim
  | kZ _ _=>exact hn.elim
  | loc n =>
   have hn:q8 μ n=true:=hn
   simp [cC,aL,wSs,wS,wT,wE,wEs,aQ,jW,truth,hn]
   exact key
  | _=>simp [cC,aL,wSs,wS,wT,wE,wEs,aQ,jW,truth]; exact key
theorem qR:mU dF dG cW:=by
 rintro ds μ Q X (⟨a,b,rfl,h⟩ | ⟨a,b,rfl,hn,h⟩)
 ·exact h.elim
 ·simp only [dG,dF,aL,lN,wSs,wS,DR,wE,wEs,List.map_cons,List.map_nil,List.length_cons,List.length_nil,List.cons_append,List.nil_append,List.getElem?_cons_zero,List.getElem?_cons_succ]
  exact .inr ⟨b,rfl,hn,h⟩
theorem rY:mU eE eO dD:=by
 rintro ds μ Q X (⟨a,b,rfl,h⟩ | ⟨a,b,rfl,hn,h⟩)
 ·exact h.elim
 ·simp only [eO,eE,aL,lN,wSs,wS,DR,wE,wEs,List.map_cons,List.map_nil,List.length_cons,List.length_nil,List.cons_append,List.nil_append,List.getElem?_cons_zero,List.getElem?_cons_succ]
  exact .inr ⟨b,rfl,hn,h⟩
theorem zE:mU gW g8 fX:=by
 rintro ds μ Q X (⟨a,b,rfl,h⟩ | ⟨a,b,rfl,hn,h⟩)
 ·exact h.elim
 ·simp only [g8,gW,aL,lN,wSs,wS,DR,wE,wEs,List.map_cons,List.map_nil,List.length_cons,List.length_nil,List.cons_append,List.nil_append,List.getElem?_cons_zero,List.getElem?_cons_succ]
  exact .inr ⟨b,rfl,hn,h⟩
theorem zF:Keeps gY ig fY:=by
 rintro ds μ Q ⟨a,b,rfl,h⟩
 simp [ig,gY,aL,iB,wSs,wS,wE,wEs,tI,lM,tyOf,wH,gK,aV,lenOf,aG,cM,flat,iw,nq,wF,aQ]
 exact h
theorem Cj:Keeps jk jl gQ:=by
 rintro ds μ Q ⟨n,rfl,hb,h⟩
 have hb2:gM (μ ++ [.cH [.inr [97]] [.int 3]]) n:=by
  obtain ⟨b,e⟩:=hb
  exact ⟨b,fZ e⟩
 have hlt:n < μ.length:=by obtain ⟨b,e⟩:=hb; exact (List.getElem?_eq_some_iff.mp e).1
 simp only [jl,jk,aL,iB,wSs,wS,wE,wEs,newL,gO,List.map_cons,List.map_nil,List.length_cons,List.length_nil,List.cons_append,List.nil_append,List.getElem?_cons_zero,List.getElem?_cons_succ,List.set_cons_succ,List.set_cons_zero,List.replicate]
 refine ⟨by simp [lim],by simp [lim],by simp [H9],trivial,by simp [lim],hb2,by decide,by decide,fun k b k0 k1=>?_⟩
 have dc:q8 (bx (μ ++ [.cH [.inr [97]] [.int 3]]) n b) μ.length=true:=by
  unfold q8 bx
  rw [List.getElem?_set_ne (by lia)]
  simp
 have hk:k=0∨k=1∨k=2∨k=3∨k=4∨k=5∨k=6∨k=7∨k=8∨k=9∨k=10∨k=11:=by lia
 rcases hk with rfl | rfl | rfl | rfl | rfl | rfl | rfl | rfl | rfl | rfl | rfl | rfl <;> simp [nq,aG,wF] <;> exact h _ b (by first | exact trivial | exact dc | (show _ < (2:Int)∨(8:Int) < _; lia) | (show _ < (2:Int)∨(8:Int) < _; decide))
theorem FP:Keeps c7 dj jh:=by
 rintro ds μ Q ⟨w,l,d,rfl,hw,hd,h⟩
 have hk:w=0∨w=1∨w=2∨w=3∨w=4:=by lia
 rcases hk with rfl | rfl | rfl | rfl | rfl
 ·simp [dj,c7,aL,iB,wSs,wS,wT,wE,wEs,DR,cM,flat,iw,gK]
  exact .inr ⟨_,d,rfl,hd,by simp [vX,gK]; exact h _⟩
 ·simp [dj,c7,aL,iB,wSs,wS,wT,wE,wEs,DR,cM,flat,iw,gK,newL,lim]
  exact .inr ⟨_,_,d,rfl,hd.app _,by simp [vX,gK]; exact h _⟩
 ·simp [dj,c7,aL,iB,wSs,wS,wT,wE,wEs,DR,cM,flat,iw,gK]
  exact .inr ⟨_,d,rfl,hd,by simp [vX,gK]; exact h _⟩
 ·simp [dj,c7,aL,iB,wSs,wS,wT,wE,wEs,DR,cM,flat,iw,gK,aV,lenOf,aG]
  exact .inr ⟨_,d,rfl,hd,by simp [vX,gK]; exact h _⟩
 ·simp [dj,c7,aL,iB,wSs,wS,wT,wE,wEs,DR,cM,flat,iw,gK,aV,lenOf,aG]
  exact .inr ⟨_,d,rfl,hd,by simp [vX,gK]; exact h _⟩
end DW.lK
end
section
namespace DW.lK
open PySem DW DW.Qk DW.Vh DW.Yw DW.TBL
noncomputable def f0:D->D
 | .tup (x :: _)=>x
 | _=>.non
theorem Cm {is:List (List Int)} {vs:List D} {j:Nat} {d:D} {ds:List D} (hl:vs.length=is.length) (h:d :: ds=j7 (is.drop j) (vs.drop j)):∃ l v,is[j]? = some l/\vs[j]? = some v/\d = .tup [tI l,v]/\ds=j7 (is.drop (j + 1)) (vs.drop (j + 1)):=by
 by_cases c:j < is.length
 ·have c':j < vs.length:=by lia
  rw [List.drop_eq_getElem_cons c,List.drop_eq_getElem_cons c'] at h
  simp only [j7,List.cons.injEq] at h
  exact ⟨_,_,List.getElem?_eq_getElem c,List.getElem?_eq_getElem c',h.1,h.2⟩
 ·rw [List.drop_eq_nil_of_le (by lia)] at h
  simp [j7] at h
theorem SQ {is:List (List Int)} {vs:List D} {j:Nat} (hl:vs.length=is.length) (h:[]=j7 (is.drop j) (vs.drop j)):is.length<=j:=by
 by_cases c:j < is.length
 ·rw [List.drop_eq_getElem_cons c,List.drop_eq_getElem_cons (by lia:j < vs.length)] at h
  simp [j7] at h
 ·lia
theorem Vb {ks:List (List aC)} {vs:List D} {G:Int->Int->Option D} {j:Nat} {l:List Int} {v:D} (h:cV ks vs G) (h1:(ks.map Cv)[j]? = some l) (h2:vs[j]? = some v):∃ a b:Int,l=[a,b]/\ks[j]? = some [.inl a,.inl b]/\G a b=some v:=by
 rw [List.getElem?_map] at h1
 cases q:ks[j]? with
 | none=>rw [q] at h1; cases h1
 | some k =>
  rw [q] at h1
  obtain ⟨a,b,rfl⟩:=h.1.2.2 k (List.mem_of_getElem? q)
  refine ⟨a,b,?_,rfl,?_⟩
  ·simpa [Cv] using h1.symm
  ·rw [<- h.2]; exact Dd h.1.2.1 q h2
theorem Lw {ks:List (List aC)} {us:List D} {j:Nat} {k:List aC} {u:D} (hn:ks.Nodup) (hl:us.length=ks.length) (h1:ks[j]? = some k) (h2:us[j]? = some u):cB (ks.take j) k=ks.take (j + 1)/\dw (ks.take j) (us.take j) k u=us.take (j + 1):=by
 have c:k ∉ ks.take j:=fun hm=>by
  obtain ⟨i,hi,e⟩:=List.mem_take_iff_getElem.mp hm
  obtain ⟨hj,e2⟩:=List.getElem?_eq_some_iff.mp h1
  exact List.pairwise_iff_getElem.mp hn i j (by lia) hj (by lia) (e.trans e2.symm)
 unfold cB dw
 rw [if_neg c,if_neg c,List.take_succ,List.take_succ,h1,h2]
 exact ⟨rfl,rfl⟩
theorem Ox {ks:List (List aC)} {vs:List D} {G:Int->Int->Option D} {n s f:Nat} {V:Int->Int->Int} (h:cV ks vs G) (hG:∀ a b,(G a b).isSome=true->(tab n V s f a b).isSome=true) (hn:n<=12):ks.length<=169:=by
 have:=sub_len (m:=(List.range 13).flatMap fun a:Nat=>(List.range 13).map fun b:Nat=>([.inl (a:Int),.inl (b:Int)]:List aC)) h.1.2.1 fun k hk=>by
  obtain ⟨a,b,rfl⟩:=h.1.2.2 k hk
  have h1:=hG a b ((zT h a b).mp hk)
  obtain ⟨t,ht⟩:=Option.isSome_iff_exists.mp h1
  obtain ⟨⟨q1,q2,q3,_⟩,_⟩:=Bc ht
  refine List.mem_flatMap.mpr ⟨a.toNat,by rw [List.mem_range]; lia,List.mem_map.mpr ⟨b.toNat,by rw [List.mem_range]; lia,?_⟩⟩
  rw [Int.toNat_of_nonneg (by lia),Int.toNat_of_nonneg (by lia)]
 exact this
theorem Sv:mU pO pW iC:=by
 rintro ds μ Q X (⟨ls,w,rfl,n1,n12,w2,w8,h⟩ | ⟨a,b,rfl,hn,h⟩)
 ·simp only [pW,pO,aL,lN,wSs,wS,DR,wE,wEs,wI,if_true,List.map_cons,List.map_nil,List.length_cons,List.length_nil,List.cons_append,List.nil_append,List.getElem?_cons_zero,List.getElem?_cons_succ,Nat.reduceAdd,Nat.reduceSub,List.replicate,List.set]
  refine .inl ⟨w,rfl,by lia,by lia,?_⟩
  refine ⟨ls,w,rfl,n1,n12,w2,w8,fun V ks vs K ν _ hV hT hK hP=>?_⟩
  have hT':cV ks (vs.map f0) (gZ (tab ls.length V (ls.length + 1) 0)):=by
   refine ⟨⟨by rw [List.length_map]; exact hT.1.1,hT.1.2⟩,fun a b=>?_⟩
   rw [xV,hT.2,<- hK]
   unfold DP gZ rJ
   cases K a b <;> rfl
  have hl:(μ ++ [Cell.bW [] []]).length=μ.length + 1:=by simp
  have g0:(μ ++ [Cell.bW [] []] ++ .bW ks vs :: ν)[μ.length + 1]? = some (.bW ks vs):=by rw [<- hl]; exact eF
  simp only [yh,hl,g0]
  intro o
  have g1:(μ ++ [Cell.bW [] []] ++ .bW ks vs :: ν).set (μ.length + 1) (.jG o ks vs)=μ ++ .bW [] [] :: .jG o ks vs :: ν:=by
   rw [<- hl,m6]; simp
  rw [g1]
  have a1:∀ c:Cell,(μ ++ c :: .jG o ks vs :: ν)[μ.length + 1]? = some (.jG o ks vs):=fun c=>by simp
  simp only [Km,a1]
  have hk:=yW hT.1.2
  generalize hks:ks.map Cv=is at hk
  have li:vs.length=is.length:=by rw [<- hks,List.length_map]; exact hT.1.1
  refine ⟨is,hk,?_⟩
  refine aU (fun ds ρ μ'=>∃ (j:Nat) (v3 v4:Option D),ds=j7 (is.drop j) (vs.drop j)/\ρ=[some (.lst (ls.map D.int)),some (.int (w:Int)),some (.loc μ.length),v3,v4]/\μ'=μ ++ .bW (ks.take j) ((vs.map f0).take j) :: .jG o ks vs :: ν) ?_ ?_ _ _ _ ⟨0,none,none,by simp,rfl,by simp⟩
  ·rintro d ds ρ μ1 N hN ⟨j,v3,v4,hd,rfl,rfl⟩
   refine ⟨a1 _,?_⟩
   obtain ⟨l,v,h1,h2,rfl,rfl⟩:=Cm li hd
   rw [<- hks] at h1
   obtain ⟨a,b,rfl,h3,h4⟩:=Vb hT h1 h2
   obtain ⟨z,hz,rfl⟩:∃ z,K a b=some z/\v=kv z:=by
    unfold DP at h4
    cases q:K a b with
    | none=>rw [q] at h4; cases h4
    | some z=>rw [q] at h4; exact ⟨z,rfl,(Option.some.inj h4).symm⟩
   have hkey:fB [D.int a,D.int b]=some [.inl a,.inl b]:=rfl
   have h5:(vs.map f0)[j]? = some (.int z.1):=by rw [List.getElem?_map,h2]; rfl
   obtain ⟨p1,p2⟩:=Lw hT.1.2.1 (by rw [List.length_map]; exact hT.1.1) h3 h5
   have hlk:(ks.take j).length < lim:=by
    have h6:=Ox (n:=ls.length) (s:=ls.length + 1) (f:=0) (V:=V) hT (fun a b q=>by rw [<- hK]; unfold rJ; unfold DP at q; simpa using q) n12
    rw [List.length_take]
    simp only [lim]; lia
   simp only [cL,tI,kv,List.set,nq,aG,wF,jH,eF,hkey,m6,p1,p2,hlk,List.map_cons,List.map_nil,List.length_cons,List.length_nil,List.getElem?_cons_zero,List.getElem?_cons_succ]
   simp
   rw [hkey]
   dsimp only
   rw [p1,p2]
   exact ⟨by rw [<- List.length_take]; exact hlk,hN _ _ ⟨j + 1,_,_,rfl,rfl,rfl⟩⟩
  ·rintro ρ μ1 ⟨j,v3,v4,hd,rfl,rfl⟩
   refine ⟨a1 _,?_⟩
   have:=SQ li hd
   have lk:ks.length=is.length:=by rw [<- hT.1.1]; exact li
   rw [List.take_of_length_le (by lia),List.take_of_length_le (by rw [List.length_map]; lia)]
   simp only [wSs,wS,wE,List.getElem?_cons_zero,List.getElem?_cons_succ]
   exact h V ks _ _ hV hT'
 ·simp only [pW,pO,aL,lN,wSs,wS,DR,wE,wEs,List.map_cons,List.map_nil,List.length_cons,List.length_nil,List.cons_append,List.nil_append,List.getElem?_cons_zero,List.getElem?_cons_succ]
  exact .inr ⟨b,rfl,hn,h⟩
theorem FN:mU iM iU gj:=by
 rintro ds μ Q X (⟨n,o,ls,w,V,ks,vs,rfl,n1,n12,w2,w8,hn,hV,hT,h⟩ | ⟨a,b,e,rfl,hn,h⟩)
 ·simp only [iU,iM,aL,lN,wSs,wS,DR,wE,wEs,List.map_cons,List.map_nil,List.length_cons,List.length_nil,List.cons_append,List.nil_append,List.getElem?_cons_zero,List.getElem?_cons_succ,Nat.reduceAdd,Nat.reduceSub,List.replicate,List.set]
  refine .inl ⟨ls,w,rfl,n1,n12,w2,w8,fun V' ks' vs' ν Z5 hT'=>?_⟩
  rw [<- uc hV Z5] at hT'
  have hg:(μ ++ Cell.bW ks' vs' :: ν)[n]? = some (.jG o ks vs):=fZ hn
  have hm:(μ ++ Cell.bW ks' vs' :: ν)[μ.length]? = some (.bW ks' vs'):=eF
  have hq:Q (.bl true) (μ ++ Cell.bW ks' vs' :: ν):=h _
  generalize μ ++ Cell.bW ks' vs' :: ν=μ2 at hg hm hq
  have hl:=OD hT hT'
  simp only [wT,wE,wEs,lM,tyOf,hg,wH,gK,aV,lenOf,aG,hm,Option.map_none,Gx,cM,flat,iw,hl,List.getElem?_cons_zero,List.getElem?_cons_succ]
  simp only [show ("dict" == "dict")=true from rfl,Bool.true_or,Bool.not_true,Bool.false_eq_true,if_false,beq_self_eq_true,true_and]
  simp only [tlT,wSs,wS,wE,wI,Km,hg,List.getElem?_cons_zero,List.getElem?_cons_succ]
  have hk:=yW hT.1.2
  generalize hks:ks.map Cv=is at hk
  have li:vs.length=is.length:=by rw [<- hks,List.length_map]; exact hT.1.1
  refine ⟨is,hk,?_⟩
  refine aU (fun ds ρ μ'=>∃ (j:Nat) (v4 v5:Option D),ds=j7 (is.drop j) (vs.drop j)/\ρ=[some (.loc n),some (.lst (ls.map D.int)),some (.int (w:Int)),some (.loc μ.length),v4,v5]/\μ'=μ2) ?_ ?_ _ _ _ ⟨0,none,none,by simp,rfl,rfl⟩
  ·rintro d ds ρ μ1 N hN ⟨j,v4,v5,hd,rfl,rfl⟩
   refine ⟨hg,?_⟩
   obtain ⟨l,v,h1,h2,rfl,rfl⟩:=Cm li hd
   rw [<- hks] at h1
   obtain ⟨a,b,rfl,h3,h4⟩:=Vb hT h1 h2
   obtain ⟨t,rfl⟩:∃ t:Int,v = .int t:=by
    unfold gZ at h4
    cases q:tab ls.length V (ls.length + 1) 0 a b with
    | none=>rw [q] at h4; cases h4
    | some t=>rw [q] at h4; exact ⟨t,(Option.some.inj h4).symm⟩
   have hkey:fB [D.int a,D.int b]=some [.inl a,.inl b]:=rfl
   have hr:aH ks' vs' [.inl a,.inl b]=some (.int t):=by rw [hT'.2]; exact h4
   simp only [cL,List.zip_cons_cons,List.zip_nil_left,List.foldl_cons,List.foldl_nil,List.set,wSs,wS,wT,wE,wEs,List.getElem?_cons_zero,List.getElem?_cons_succ]
   refine ⟨rfl,a,b,rfl,?_⟩
   simp only [jW,truth,gK,Bool.not_true,Bool.false_eq_true,if_false,aQ,zG,Jy,hm,qx,Qo,tI,List.map_cons,List.map_nil,if_true,true_or,or_true,true_and]
   rw [hkey]
   simp only [hr,Option.getD_some,cM,flat,iw,beq_self_eq_true,Bool.not_true,gK,Bool.false_eq_true,if_false,true_and]
   exact hN _ _ ⟨j + 1,_,_,rfl,rfl,rfl⟩
  ·rintro ρ μ1 ⟨j,v4,v5,hd,rfl,rfl⟩
   exact ⟨hg,hq⟩
 ·simp only [iU,iM,aL,lN,wSs,wS,DR,wE,wEs,List.map_cons,List.map_nil,List.length_cons,List.length_nil,List.cons_append,List.nil_append,List.getElem?_cons_zero,List.getElem?_cons_succ]
  exact .inr ⟨b,e,rfl,hn,h⟩
end DW.lK
end
section
namespace DW.lK
open PySem DW DW.Qk DW.Vh DW.Yw DW.TBL
noncomputable def cY:iZ:=fun ds μ Q=>match ds with
 | [.loc n,.int m]=>gM μ n/\1<=m/\m<=60/\∀ (ls:List Int) (b:Int),1<=ls.length->(ls.length:Int)<=m->(∀ l∈ls,0<=l/\l < 1000000)->Q (.lst (ls.map D.int)) (bx μ n b)
 | _=>False
noncomputable def Hf:List Str:=["script","k","box","great","lengths","width","due","handed","found","bad","way"]
noncomputable def tlB:Ss:=(.cons (.set 9 (.call "_law_no_width" gQ (.cons (.var 2) .nil))) (.cons (.for_ [10] false (.rng (.cons (.cst (.int 5)) .nil)) (.cons (.ite (.not (.call "_law_refused" jh (.cons (.var 10) (.cons (.var 7) (.cons (.var 9) .nil))))) (.cons (.ret (.cst (.bl false))) .nil) .nil) .nil)) .nil))
noncomputable def YF:Ss:=(.cons (.exp (.Qa "clear" (.var 8) .nil)) (.cons (.ite (.wN (.call "table" (vq iC) (.cons (.var 7) (.cons (.var 5) .nil))) (.var 6) true) (.cons (.ret (.cst (.bl false))) .nil) .nil) tlB))
noncomputable def tlC:Ss:=(.cons (.ite (.not (.bK (.blt "all" (.cons (.comp false 1 false [] (.and (.isin (.var 0) "tuple") (.and (.call "_law_whole" cR (.cons (.idx (.var 0) (.cst (.int 0))) .nil)) (.call "_law_whole" cR (.cons (.idx (.var 0) (.cst (.int 1))) .nil)))) (.seq (.var 8)) .nil) .nil)) (some 8))) (.cons (.ret (.cst (.bl false))) .nil) .nil) (.cons (.ite (.or (.not (.bK (.blt "all" (.cons (.comp false 1 false [8] (.call "_law_whole" cR (.cons (.qd (.var 1) (.var 0)) .nil)) (.seq (.var 8)) .nil) .nil)) (some 8))) (.cmp .IsNot (.bK (.call "is_table" (vq gj) (.cons (.var 8) (.cons (.var 7) (.cons (.var 5) .nil)))) (some 8)) (.cst (.bl true)))) (.cons (.ret (.cst (.bl false))) .nil) .nil) YF))
noncomputable def tlA:Ss:=(.cons (.set 6 (.call "_law_table" mY (.cons (.var 4) (.cons (.var 5) .nil)))) (.cons (.set 7 (.blt "list" (.cons (.var 4) .nil))) (.cons (.set 8 (.call "table" (vq iC) (.cons (.var 7) (.cons (.var 5) .nil)))) (.cons (.ite (.or (.not (.isin (.var 8) "dict")) (.or (.wN (.var 8) (.var 6) true) (.cmp .NotEq (.var 7) (.var 4)))) (.cons (.ret (.cst (.bl false))) .nil) .nil) tlC))))
noncomputable def Hr:Ss:=(.cons (.for_ [1] false (.rng (.cons (.blt "max" (.cons (.cst (.int 1)) (.cons (.blt "min" (.cons (.blt "len" (.cons (.var 0) .nil)) (.cons (.cst (.int 2)) .nil))) .nil))) .nil)) (.cons (.set 2 (.call "_law_box" pA (.cons (.var 0) (.cons (.var 1) .nil)))) (.cons (.set 3 (.cmp .Eq (.call "_law_take" cI (.cons (.var 2) (.cons (.cst (.int 8)) .nil))) (.cst (.int 7)))) (.cons (.set 4 (.call "_law_lengths" cY (.cons (.var 2) (.cons (.idx (.lst false (.cons (.cst (.int 7)) (.cons (.cst (.int 12)) .nil))) (.blt "int" (.cons (.var 3) .nil))) .nil)))) (.cons (.set 5 (.bin .Add (.cst (.int 2)) (.call "_law_take" cI (.cons (.var 2) (.cons (.idx (.lst false (.cons (.cst (.int 7)) (.cons (.cst (.int 2)) .nil))) (.blt "int" (.cons (.var 3) .nil))) .nil))))) tlA))))) (.cons (.ret (.cst (.bl true))) .nil))
theorem FQ:Keeps jZ j9 cY:=by
 intro ds μ Q h
 unfold cY at h
 split at h
 ·obtain ⟨hb,m1,m2,h⟩:=h
  rename_i n m
  simp [j9,jZ,aL,iB,wSs,wS,wE,wEs,wI,wTs,gO,H9,newL,newR,lim,cI,hb]
  intro d b d0 d4
  have hb2:=fD (b:=b) hb
  have e:wF 4 d=some d.toNat:=by simp [wF,d0,d4]
  simp [nq,aG,e]
  have hd:d.toNat < 4:=by lia
  have go:∀ t:Int,0 < t->t<=1000000->gM (bx μ n b) n/\0 < m/\m < 2 ^ 500/\∀ (d b1:Int),0<=d->d < m->lq 1 [.int (1 + d)] (bx (bx μ n b) n b1) fun ds g μ1=>jJ (fun d k=>bindC 1 false d [some (.loc n),some (.int t)] k) (fun ρ' μ' Q'=>Q' true μ') (fun ρ' μ' Q'=>wE (.call "_law_take" cI (.cons (.var 1) (.cons (.var 2) .nil))) ρ' μ' Q') g ds [] μ1 fun vs μ2=>Q (.lst vs) μ2:=by
   intro t t0 t1
   refine ⟨hb2,by lia,by lia,fun k b1 k0 k1=>⟨by simp only [lim]; lia,by lia,?_⟩⟩
   rw [Vf]
   refine qz (fun ds acc μ'=>∃ (ls:List Int) (b:Int),acc=ls.map D.int/\μ'=bx μ n b/\((ls.length + ds.length:Nat):Int)=1 + k/\∀ l∈ls,0<=l/\l < 1000000) ?_ ?_ _ _ _ ⟨[],b1,rfl,rfl,by simp [aM]; lia,by simp⟩
   ·rintro d ds acc μ1 Y N hY hN ⟨ls,b,rfl,rfl,hl,hx⟩
    refine ⟨trivial,?_⟩
    simp [bindC,wE,wEs,cI,fD hb,t0,Vf]
    refine ⟨by lia,fun v b' v0 v1=>?_⟩
    refine hY _ _ ⟨ls ++ [v],b',by simp,rfl,by simp at hl ⊢; lia,fun l hl=>?_⟩
    rcases List.mem_append.mp hl with hl | hl
    ·exact hx l hl
    ·have:l=v:=by simpa using hl
     lia
   ·rintro acc μ1 ⟨ls,b,rfl,rfl,hl,hx⟩
    simp at hl
    exact ⟨trivial,h _ _ (by lia) (by lia) hx⟩
  generalize d.toNat=j at hd
  match j,hd with
  | 0,_=>exact go 4 (by decide) (by decide)
  | 1,_=>exact go 10 (by decide) (by decide)
  | 2,_=>exact go 100 (by decide) (by decide)
  | 3,_=>exact go 1000000 (by decide) (by decide)
 ·exact h.elim
theorem aak:∀ n:Nat,n < 8->∀ w:Nat,w < 9->(w:Int) * Bd w (n - 1) < 10 ^ 12:=by decide
theorem X6:∀ n:Nat,n < 13->∀ w:Nat,w < 4->(w:Int) * Bd w (n - 1) < 10 ^ 12:=by decide
theorem tH {μ:Mem} {n:Nat} (h:gM μ n) (ν:Mem):gM (μ ++ ν) n:=by
 obtain ⟨b,e⟩:=h
 exact ⟨b,fZ e⟩
theorem ug {μ:Mem} {n:Nat} {c d:Cell} (h:μ[n]? = some c):(μ.set n d).set n c=μ:=by
 rw [List.set_set]
 obtain ⟨hn,e⟩:=List.getElem?_eq_some_iff.mp h
 rw [<- e]; exact List.set_getElem_self hn
theorem uh {μ:Mem} {n:Nat} {c d:Cell} (h:μ[n]? = some c):(μ.set n d)[n]? = some d:=List.getElem?_set_self (List.getElem?_eq_some_iff.mp h).1
theorem u6 {ks ls:List (List aC)} {vs us:List D} {T:TF} (h:cV ks vs (gZ T)) (h':cV ls us (gZ T)):ks.length=ls.length/\∀ k∈ks,∃ i:Int,aH ks vs k=some (.int i)/\aH ls us k=some (.int i):=by
 refine ⟨OD h h',fun k hk=>?_⟩
 obtain ⟨a,b,rfl⟩:=h.1.2.2 k hk
 have h1:=(zT h a b).mp hk
 rw [h.2,h'.2]
 unfold gZ at h1 ⊢
 cases q:T a b with
 | none=>rw [q] at h1; cases h1
 | some t=>exact ⟨t,rfl,rfl⟩
theorem rD:∀ {α:Type} (l:List α),allB (l.map fun _=>D.bl true)=some true
 | _,[]=>rfl
 | _,_ :: l=>by simp [allB,rD l]
section
variable {r0 r1 r3 r4 r6 r9 r10:Option D} {nb:Nat} {ls:List Int} {Z:jr}
theorem Lq {μ:Mem} (hb:gM μ nb) {r5 r8:Option D}
  (h:∀ ρ μ',(∃ a b c d e f g i j k,ρ=[r0,a,b,c,d,e,f,g,i,j,k])->Z.nx ρ μ') :
  wSs tlB Z [r0,r1,some (.loc nb),r3,r4,r5,r6,some (.lst (ls.map D.int)),r8,r9,r10] μ:=by
 simp only [tlB,wSs,wS,wE,wEs,List.getElem?_cons_zero,List.getElem?_cons_succ,List.set_cons_succ,List.set_cons_zero]
 refine ⟨nb,rfl,hb,fun d b hd=>?_⟩
 generalize bx (μ ++ [.cH [.inr [97]] [.int 3]]) nb b=μ2 at hd
 simp only [wI,wE,wEs,gB,lq]
 refine ⟨by decide,by decide,?_⟩
 refine aU (fun ds ρ μ'=>(∀ d∈ds,∃ i:Nat,d = .int (i:Int)/\i < 5)/\(∃ ν,μ'=μ2 ++ ν)/\∃ k,ρ=[r0,r1,some (.loc nb),r3,r4,r5,r6,some (.lst (ls.map D.int)),r8,some d,k]) ?_ ?_ _ _ _ ⟨?_,⟨[],by simp⟩,r10,rfl⟩
 ·rintro x ds ρ μ1 N hN ⟨hx,⟨ν,rfl⟩,k,rfl⟩
  obtain ⟨i,rfl,hi⟩:=hx x (by simp)
  refine ⟨trivial,?_⟩
  simp only [cL,List.set_cons_succ,List.set_cons_zero,wT,wE,wEs,wSs,wS,List.getElem?_cons_zero,List.getElem?_cons_succ]
  refine ⟨i,_,d,rfl,hi,hd.app ν,fun ν2=>?_⟩
  simp only [jW,truth,Bool.not_true,Bool.false_eq_true,if_false]
  exact hN _ _ ⟨fun d hd'=>hx d (by simp [hd']),⟨ν ++ ν2,by simp⟩,_,rfl⟩
 ·rintro ρ μ1 ⟨-,⟨ν,rfl⟩,k,rfl⟩
  exact ⟨trivial,h _ _ ⟨_,_,_,_,_,_,_,_,_,_,rfl⟩⟩
 ·intro d hd
  obtain ⟨i,rfl,h0,h1⟩:=uD hd
  exact ⟨i.toNat,by simp; lia,by lia⟩
theorem O7 {μ:Mem} {w n6 n8:Nat} {V:Int->Int->Int} {ks Yq:List (List aC)} {vs Yl:List D} (l1:1<=ls.length) (U0:ls.length<=12) (w2:2<=w) (w8:w<=8) (hb:gM μ nb) (h6:μ[n6]? = some (.bW Yq Yl)) (h8:μ[n8]? = some (.bW ks vs)) (ne:n6≠n8) (hV:cP ls w V (ls.length + 1) 0) (hT:cV Yq Yl (gZ (tab ls.length V (ls.length + 1) 0)))
  (h:∀ ρ μ',(∃ a b c d e f g i j k,ρ=[r0,a,b,c,d,e,f,g,i,j,k])->Z.nx ρ μ') :
  wSs YF Z [r0,r1,some (.loc nb),r3,r4,some (.int (w:Int)),some (.loc n6),some (.lst (ls.map D.int)),some (.loc n8),r9,r10] μ:=by
 have nb8:nb≠n8:=fun e=>by obtain ⟨b,hb⟩:=hb; rw [e,h8] at hb; cases hb
 simp only [YF,wSs,wS,wT,wE,wEs,zG,Jy,h8,qx,Vq,List.getElem?_cons_zero,List.getElem?_cons_succ,or_true,if_true,String.reduceEq,if_false,true_and]
 have g6:(μ.set n8 (.bW [] []))[n6]? = some (.bW Yq Yl):=by rw [List.getElem?_set_ne (Ne.symm ne)]; exact h6
 have gb:gM (μ.set n8 (.bW [] [])) nb:=by obtain ⟨b,hb⟩:=hb; exact ⟨b,by rw [List.getElem?_set_ne (Ne.symm nb8)]; exact hb⟩
 generalize μ.set n8 (.bW [] [])=μ2 at g6 gb
 refine .inl ⟨ls,w,rfl,l1,U0,w2,w8,fun V' ks3 vs3 ν Z5 hT3=>?_⟩
 rw [<- uc hV Z5] at hT3
 simp only [Ib,eF,fZ g6,gK]
 refine ⟨u6 hT3 hT,?_⟩
 simp only [Bool.false_eq_true,if_false]
 exact Lq (tH gb _) h
theorem Jt {μ:Mem} {w n6 n8:Nat} {V:Int->Int->Int} {ks Yq:List (List aC)} {vs Yl:List D} (l1:1<=ls.length) (U0:ls.length<=12) (w2:2<=w) (w8:w<=8) (hb:gM μ nb) (h6:μ[n6]? = some (.bW Yq Yl)) (h8:μ[n8]? = some (.bW ks vs)) (ne:n6≠n8) (hV:cP ls w V (ls.length + 1) 0) (hT:cV Yq Yl (gZ (tab ls.length V (ls.length + 1) 0))) (hF:cV ks vs (gZ (tab ls.length V (ls.length + 1) 0)))
  (h:∀ ρ μ',(∃ a b c d e f g i j k,ρ=[r0,a,b,c,d,e,f,g,i,j,k])->Z.nx ρ μ') :
  wSs tlC Z [r0,r1,some (.loc nb),r3,r4,some (.int (w:Int)),some (.loc n6),some (.lst (ls.map D.int)),some (.loc n8),r9,r10] μ:=by
 have key:∀ ν,wSs YF Z [r0,r1,some (.loc nb),r3,r4,some (.int (w:Int)),some (.loc n6),some (.lst (ls.map D.int)),some (.loc n8),r9,r10] (μ ++ ν):=fun ν=>O7 l1 U0 w2 w8 (tH hb ν) (fZ h6) (fZ h8) ne hV hT h
 have hk:=yW hF.1.2
 have kf:∀ l∈ks.map Cv,∃ a b:Int,l=[a,b]/\[.inl a,.inl b]∈ks:=fun l hl=>by
  obtain ⟨k,hk,rfl⟩:=List.mem_map.mp hl
  obtain ⟨a,b,rfl⟩:=hF.1.2.2 k hk
  exact ⟨a,b,rfl,hk⟩
 simp only [tlC]
 generalize YF=G at key
 simp only [wSs,wS,wT,wE,wEs,wI,Am,h8,ZL,true_and,List.getElem?_cons_zero,List.getElem?_cons_succ,List.map_nil,List.map_cons,Option.join_some]
 intro o
 have ho:∀ o:Obj,(μ.set n8 (.jG o ks vs))[n8]? = some (.jG o ks vs):=fun o=>uh h8
 simp only [ho]
 refine ⟨ks.map Cv,hk,?_⟩
 refine tQ tI (fun _=>D.bl true) (ho o) _ _ (fun l hl Y N hY=>?_) ?_
 ·obtain ⟨a,b,rfl,_⟩:=kf l hl
  simp [bindC,wTs,tI,lM,tyOf,wH,gK,nq,aG,wF,cR]
  exact hY
 simp only [List.nil_append,newL,aV,dX,aG,Option.bind_some,rD,ho,true_and,ug h8,jW,truth,gK,Bool.not_true,Bool.false_eq_true,if_false]
 simp only [h8]
 intro o2
 simp only [ho]
 refine ⟨ks.map Cv,hk,?_⟩
 refine tQ tI (fun _=>D.bl true) (ho o2) _ _ (fun l hl Y N hY=>?_) ?_
 ·obtain ⟨a,b,rfl,hm⟩:=kf l hl
  obtain ⟨i,hi,_⟩:=(u6 hF hF).2 _ hm
  have hkey:fB [D.int a,D.int b]=some [.inl a,.inl b]:=rfl
  simp only [bindC,wTs,tI,rE,ho,List.map_cons,List.map_nil,hkey,hi,cR,if_true,List.getElem?_cons_zero,List.getElem?_cons_succ]
  exact hY
 simp only [List.nil_append,newL,aV,dX,aG,Option.bind_some,rD,ho,true_and,ug h8,jW,truth,gK,Bool.not_true,Bool.false_eq_true,if_false]
 simp only [h8]
 intro o3
 refine .inl ⟨n8,o3,ls,w,V,ks,vs,rfl,l1,U0,w2,w8,ho o3,hV,hF,fun ν=>?_⟩
 have e:(μ.set n8 (.jG o3 ks vs) ++ ν).set n8 (.bW ks vs)=μ ++ ν:=by
  rw [List.set_append_left _ _ (by rw [List.length_set]; exact (List.getElem?_eq_some_iff.mp h8).1),ug h8]
 refine ⟨fZ (ho o3),?_⟩
 rw [e]
 simp only [cM,bne_self_eq_false,gK,Bool.false_eq_true,if_false]
 exact key ν
end
theorem ZK:Keeps Hf Hr uf:=by
 rintro ds μ Q ⟨ns,rfl,hl,h⟩
 have hlo:(ns.length:Int)<=63:=by lia
 simp only [Hr,Hf,aL,iB,wSs,wS,wE,wEs,wI,newL,newR,Am,aV,lenOf,aG,lq,gB,List.map_cons,List.map_nil,List.length_cons,List.length_nil,List.cons_append,List.nil_append,List.getElem?_cons_zero,List.length_map,Option.map_some]
 refine ⟨?_,?_,?_⟩
 ·simp only [lim]; split <;> split <;> lia
 ·split <;> split <;> lia
 refine aU (fun ds ρ μ'=>(∀ d∈ds,∃ i:Int,d = .int i/\0<=i)/\∃ a b c d e f g i j k,ρ=[some (.ro (ns.map D.int)),a,b,c,d,e,f,g,i,j,k]) ?_ ?_ _ _ _ ⟨?_,none,none,none,none,none,none,none,none,none,none,rfl⟩
 ·rintro d ds ρ μ1 N hN ⟨hd,a1,a2,a3,a4,a5,a6,a7,a8,a9,a10,rfl⟩
  obtain ⟨k,rfl,k0⟩:=hd d (by simp)
  have nx:∀ ρ μ,(∃ a b c d e f g i j k,ρ=[some (.ro (ns.map D.int)),a,b,c,d,e,f,g,i,j,k])->N ρ μ:=fun ρ μ q=>hN ρ μ ⟨fun d hd'=>hd d (by simp [hd']),q⟩
  refine ⟨trivial,?_⟩
  have key:∀ {Z:jr} {nb:Nat} {ls:List Int} {w:Nat} {μ2:Mem} {r3:Option D},Z.nx=N->gM μ2 nb->1<=ls.length->ls.length<=12->(∀ l∈ls,0<=l/\l < 1000000)->2<=w->w<=8->(w:Int) * Bd w (ls.length - 1) < 10 ^ 12->wSs tlA Z [some (.ro (ns.map D.int)),some (.int k),some (.loc nb),r3,some (.lst (ls.map D.int)),some (.int (w:Int)),a6,a7,a8,a9,a10] μ2:=by
   intro Z nb ls w μ2 r3 hZ hb l1 U0 hls w2 w8 hbd
   have hll:flat 60 (.lst (ls.map D.int))=true:=by
    show flats 59 _=true
    have:∀ l:List Int,flats 59 (l.map D.int)=true:=by
     intro l
     induction l with
     | nil=>rfl
     | cons i l ih=>simp [flats,flat,ih]
    exact this ls
   simp only [tlA,wSs,wS,wE,wEs,wT,aV,aG,List.getElem?_cons_zero,List.getElem?_cons_succ,List.set_cons_succ,List.set_cons_zero]
   refine ⟨ls,w,rfl,l1,U0,w2,w8,hls,hbd,fun V ks vs ν hV hT=>?_⟩
   have g6:(μ2 ++ Cell.bW ks vs :: ν)[μ2.length]? = some (.bW ks vs):=eF
   have gb:=tH hb (.bW ks vs :: ν)
   generalize μ2 ++ Cell.bW ks vs :: ν=μ3 at g6 gb
   refine .inl ⟨ls,w,rfl,l1,U0,w2,w8,fun V' DQ vs2 ν2 Z5 hT2=>?_⟩
   rw [<- uc hV Z5] at hT2
   have h8:(μ3 ++ Cell.bW DQ vs2 :: ν2)[μ3.length]? = some (.bW DQ vs2):=eF
   have h6:=fZ (ν:=.bW DQ vs2 :: ν2) g6
   have hb2:=tH gb (.bW DQ vs2 :: ν2)
   have ne:μ2.length≠μ3.length:=fun e=>by rw [e] at g6; have:=(List.getElem?_eq_some_iff.mp g6).1; lia
   generalize μ3 ++ Cell.bW DQ vs2 :: ν2=μ4 at h8 h6 hb2
   simp only [lM,tyOf,h8,wH,Ib,h6,gK,show ("dict" == "dict")=true from rfl,Bool.true_or,Bool.not_true,Bool.false_eq_true,if_false]
   refine ⟨u6 hT2 hT,?_⟩
   refine Vn hll hll ?_
   rw [CT 60 _ hll]
   simp only [Bool.not_true,Bool.false_eq_true,if_false]
   exact Jt l1 U0 w2 w8 hb2 h6 h8 ne hV hT hT2 (by rw [hZ]; exact nx)
  generalize tlA=G at key
  simp only [cL,wSs,wS,wE,wEs,List.set_cons_succ,List.set_cons_zero,List.getElem?_cons_zero,List.getElem?_cons_succ]
  refine ⟨ns,rfl,by lia,k0,fun b0=>?_⟩
  simp only [List.set_cons_succ,List.set_cons_zero,List.getElem?_cons_zero,List.getElem?_cons_succ]
  refine ⟨xM,by decide,by decide,fun g b1 g0 g1=>?_⟩
  have hb1:gM (bx (μ1 ++ [.lst [.int b0]]) μ1.length b1) μ1.length:=fD xM
  generalize bx (μ1 ++ [.lst [.int b0]]) μ1.length b1=μ2 at hb1
  simp only [cM,flat,iw,newL,aV,List.set_cons_succ,List.set_cons_zero,List.getElem?_cons_zero,List.getElem?_cons_succ]
  refine ⟨trivial,trivial,?_⟩
  by_cases c:g=7
  ·subst c
   simp [nq,aG,wF,lim,cY,hb1]
   intro ls b2 l1 l2 hls
   refine ⟨fD hb1,by decide,by decide,fun r b3 r0 r1=>?_⟩
   obtain ⟨w,hw⟩:∃ w:Nat,2 + r=(w:Int):=⟨(2 + r).toNat,by lia⟩
   simp only [gO]
   rw [hw]
   exact key rfl (fD (fD hb1)) l1 (by lia) hls (by lia) (by lia) (X6 _ (by lia) _ (by lia))
  ·have e:(g == (7:Int))=false:=by simpa using c
   simp [e,c,nq,aG,wF,lim,cY,hb1]
   intro ls b2 l1 l2 hls
   refine ⟨fD hb1,by decide,by decide,fun r b3 r0 r1=>?_⟩
   obtain ⟨w,hw⟩:∃ w:Nat,2 + r=(w:Int):=⟨(2 + r).toNat,by lia⟩
   simp only [gO]
   rw [hw]
   exact key rfl (fD (fD hb1)) l1 (by lia) hls (by lia) (by lia) (aak _ (by lia) _ (by lia))
 ·rintro ρ μ1 ⟨-,a,b,c,d,e,f,g,i,j,k,rfl⟩
  exact ⟨trivial,h _⟩
 ·intro d hd
  obtain ⟨i,rfl,h0,_⟩:=uD hd
  exact ⟨i,rfl,h0⟩
end DW.lK
end
namespace DW.lK
open PySem L2 DW DW.Qk DW.Vh DW.Yw DW.TBL
noncomputable def top (i:Nat):Stmt:=PySem.Challenge.pw_pourwright_k45_tables_told.main.body.getD i (.Pass ⟨0,0,0,0⟩)
noncomputable def bC:List Str:=["isinstance","int","bool","dict","range","len","sum","tuple","list","abs","divmod","ValueError","max","min","all"]
noncomputable abbrev iD:Stmt:=top 5
noncomputable def uJ:List Str:=["thing"]
theorem Bj:aK nZ uJ (ak iD):=⟨rfl,rfl,rfl,by decide +kernel,rfl,by decide +kernel,by decide +kernel⟩
theorem Fq:jc (Ctx.of nZ (ak iD).names bC) oE (aD iD)=true:=by decide +kernel
theorem Dr:∀ ds μ Q,aQ ds μ Q->ds.length=uJ.length:=by
 intro ds μ Q h
 unfold aQ at h
 split at h <;> first | rfl | exact h.elim
noncomputable abbrev aZ:Stmt:=top 11
noncomputable def fK:List Str:=["reached","behind","known"]
theorem jX:aK bQ fK (ak aZ):=⟨rfl,rfl,rfl,by decide +kernel,rfl,by decide +kernel,by decide +kernel⟩
theorem lD:jc (Ctx.of bQ (ak aZ).names bC) bT (aD aZ)=true:=by decide +kernel
theorem kE:∀ ds μ Q,bD ds μ Q->ds.length=fK.length:=by
 intro ds μ Q h
 unfold bD at h
 obtain ⟨_,_,_,_,_,_,_,_,rfl,_⟩:=h; rfl
noncomputable abbrev pI:Stmt:=top 22
noncomputable def G8:List Str:=["script","k"]
theorem Lk:aK sY G8 (ak pI):=⟨rfl,rfl,rfl,by decide +kernel,rfl,by decide +kernel,by decide +kernel⟩
theorem R3:jc (Ctx.of sY (ak pI).names bC) tG (aD pI)=true:=by decide +kernel
theorem Py:∀ ds μ Q,jM ds μ Q->ds.length=G8.length:=by
 intro ds μ Q h
 unfold jM at h
 split at h <;> first | rfl | exact h.elim
noncomputable abbrev uo:Stmt:=top 23
noncomputable def M5:List Str:=["cell","k"]
theorem QM:aK zp M5 (ak uo):=⟨rfl,rfl,rfl,by decide +kernel,rfl,by decide +kernel,by decide +kernel⟩
theorem W4:jc (Ctx.of zp (ak uo).names bC) zL (aD uo)=true:=by decide +kernel
theorem T8:∀ ds μ Q,mZ ds μ Q->ds.length=M5.length:=by
 intro ds μ Q h
 unfold mZ at h
 split at h <;> first | rfl | exact h.elim
noncomputable abbrev pG:Stmt:=top 25
noncomputable def G6:List Str:=["box","many"]
theorem Li:aK sW G6 (ak pG):=⟨rfl,rfl,rfl,by decide +kernel,rfl,by decide +kernel,by decide +kernel⟩
theorem RZ:jc (Ctx.of sW (ak pG).names bC) tD (aD pG)=true:=by decide +kernel
theorem Pu:∀ ds μ Q,cI ds μ Q->ds.length=G6.length:=by
 intro ds μ Q h
 unfold cI at h
 split at h <;> first | rfl | exact h.elim
noncomputable abbrev lQ:Stmt:=top 26
noncomputable def Bu:List Str:=["thing"]
theorem Ja:aK jQ Bu (ak lQ):=⟨rfl,rfl,rfl,by decide +kernel,rfl,by decide +kernel,by decide +kernel⟩
theorem Nm:jc (Ctx.of jQ (ak lQ).names bC) jT (aD lQ)=true:=by decide +kernel
theorem J6:∀ ds μ Q,cR ds μ Q->ds.length=Bu.length:=by
 intro ds μ Q h
 unfold cR at h
 split at h <;> first | rfl | exact h.elim
noncomputable abbrev pH:Stmt:=top 29
noncomputable def G7:List Str:=["best","found","behind"]
theorem Lj:aK sX G7 (ak pH):=⟨rfl,rfl,rfl,by decide +kernel,rfl,by decide +kernel,by decide +kernel⟩
theorem R0:jc (Ctx.of sX (ak pH).names bC) tE (aD pH)=true:=by decide +kernel
theorem Px:∀ ds μ Q,pq ds μ Q->ds.length=G7.length:=by
 intro ds μ Q h
 unfold pq at h
 obtain ⟨_,_,_,_,_,_,_,_,rfl,_⟩:=h; rfl
noncomputable abbrev dR:Stmt:=top 9
noncomputable def nJ:List Str:=["thing"]
theorem um:aK cC nJ (ak dR):=⟨rfl,rfl,rfl,by decide +kernel,rfl,by decide +kernel,by decide +kernel⟩
theorem wC:jc (Ctx.of cC (ak dR).names bC) dY (aD dR)=true:=by decide +kernel
theorem vC:∀ ds μ Q X,bM ds μ Q X->ds.length=nJ.length:=by
 intro ds μ Q X h
 unfold bM at h
 rcases h with ⟨_,rfl,_⟩ | ⟨_,rfl,_⟩ <;> rfl
noncomputable abbrev cN:Stmt:=top 12
noncomputable def kJ:List Str:=["first","behind","width","known"]
theorem qI:aK d9 kJ (ak cN):=⟨rfl,rfl,rfl,by decide +kernel,rfl,by decide +kernel,by decide +kernel⟩
theorem rQ:jc (Ctx.of d9 (ak cN).names bC) eG (aD cN)=true:=by decide +kernel
theorem rB:∀ ds μ Q,dB ds μ Q->ds.length=kJ.length:=by
 intro ds μ Q h
 unfold dB at h
 obtain ⟨_,_,_,_,_,_,_,_,_,_,rfl,_⟩:=h; rfl
noncomputable abbrev eZ:Stmt:=top 16
noncomputable def pN:List Str:=["thing"]
theorem wu:aK gY pN (ak eZ):=⟨rfl,rfl,rfl,by decide +kernel,rfl,by decide +kernel,by decide +kernel⟩
theorem zy:jc (Ctx.of gY (ak eZ).names bC) ig (aD eZ)=true:=by decide +kernel
theorem wV:∀ ds μ Q,fY ds μ Q->ds.length=pN.length:=by
 intro ds μ Q h
 unfold fY at h
 obtain ⟨_,_,rfl,_⟩:=h; rfl
noncomputable abbrev uq:Stmt:=top 24
noncomputable def M6:List Str:=["script","k"]
theorem QS:aK zq M6 (ak uq):=⟨rfl,rfl,rfl,by decide +kernel,rfl,by decide +kernel,by decide +kernel⟩
theorem W5:jc (Ctx.of zq (ak uq).names bC) zM (aD uq)=true:=by decide +kernel
theorem T9:∀ ds μ Q,pA ds μ Q->ds.length=M6.length:=by
 intro ds μ Q h
 unfold pA at h
 split at h <;> first | rfl | exact h.elim
noncomputable abbrev iI:Stmt:=top 27
noncomputable def uM:List Str:=["box","most"]
theorem Bm:aK jZ uM (ak iI):=⟨rfl,rfl,rfl,by decide +kernel,rfl,by decide +kernel,by decide +kernel⟩
theorem Fw:jc (Ctx.of jZ (ak iI).names bC) j9 (aD iI)=true:=by decide +kernel
theorem Du:∀ ds μ Q,cY ds μ Q->ds.length=uM.length:=by
 intro ds μ Q h
 unfold cY at h
 split at h <;> first | rfl | exact h.elim
noncomputable abbrev gq:Stmt:=top 28
noncomputable def rG:List Str:=["box"]
theorem yP:aK jk rG (ak gq):=⟨rfl,rfl,rfl,by decide +kernel,rfl,by decide +kernel,by decide +kernel⟩
theorem BX:jc (Ctx.of jk (ak gq).names bC) jl (aD gq)=true:=by decide +kernel
theorem Ab:∀ ds μ Q,gQ ds μ Q->ds.length=rG.length:=by
 intro ds μ Q h
 unfold gQ at h
 obtain ⟨_,rfl,_⟩:=h; rfl
noncomputable abbrev lR:Stmt:=top 30
noncomputable def Bv:List Str:=["lengths","width"]
theorem Jb:aK pP Bv (ak lR):=⟨rfl,rfl,rfl,by decide +kernel,rfl,by decide +kernel,by decide +kernel⟩
theorem Np:jc (Ctx.of pP (ak lR).names bC) pX (aD lR)=true:=by decide +kernel
theorem J7:∀ ds μ Q,mY ds μ Q->ds.length=Bv.length:=by
 intro ds μ Q h
 unfold mY at h
 obtain ⟨_,_,rfl,_⟩:=h; rfl
noncomputable abbrev bA:Stmt:=top 13
noncomputable def gA:List Str:=["lengths","width"]
theorem lB:aK cu gA (ak bA):=⟨rfl,rfl,rfl,by decide +kernel,rfl,by decide +kernel,by decide +kernel⟩
theorem lX:jc (Ctx.of cu (ak bA).names bC) cA (aD bA)=true:=by decide +kernel
theorem lF:∀ ds μ Q,bO ds μ Q->ds.length=gA.length:=by
 intro ds μ Q h
 unfold bO at h
 obtain ⟨_,_,rfl,_⟩:=h; rfl
noncomputable abbrev cO:Stmt:=top 18
noncomputable def kO:List Str:=["many","width"]
theorem qJ:aK eE kO (ak cO):=⟨rfl,rfl,rfl,by decide +kernel,rfl,by decide +kernel,by decide +kernel⟩
theorem rR:jc (Ctx.of eE (ak cO).names bC) eO (aD cO)=true:=by decide +kernel
theorem rC:∀ ds μ Q X,dD ds μ Q X->ds.length=kO.length:=by
 intro ds μ Q X h
 unfold dD at h
 rcases h with ⟨_,_,rfl,_⟩ | ⟨_,_,rfl,_⟩ <;> rfl
noncomputable abbrev eY:Stmt:=top 20
noncomputable def pL:List Str:=["many","width"]
theorem wj:aK gW pL (ak eY):=⟨rfl,rfl,rfl,by decide +kernel,rfl,by decide +kernel,by decide +kernel⟩
theorem zx:jc (Ctx.of gW (ak eY).names bC) g8 (aD eY)=true:=by decide +kernel
theorem wU:∀ ds μ Q X,fX ds μ Q X->ds.length=pL.length:=by
 intro ds μ Q X h
 unfold fX at h
 rcases h with ⟨_,_,rfl,_⟩ | ⟨_,_,rfl,_⟩ <;> rfl
noncomputable abbrev pF:Stmt:=top 14
noncomputable def G5:List Str:=["lengths","width"]
theorem Lh:aK pO G5 (ak pF):=⟨rfl,rfl,rfl,by decide +kernel,rfl,by decide +kernel,by decide +kernel⟩
theorem RX:jc (Ctx.of pO (ak pF).names bC) pW (aD pF)=true:=by decide +kernel
theorem Pr:∀ ds μ Q X,iC ds μ Q X->ds.length=G5.length:=by
 intro ds μ Q X h
 unfold iC at h
 rcases h with ⟨_,_,rfl,_⟩ | ⟨_,_,rfl,_⟩ <;> rfl
noncomputable abbrev cJ:Stmt:=top 15
noncomputable def jP:List Str:=["lengths","width"]
theorem pC:aK dF jP (ak cJ):=⟨rfl,rfl,rfl,by decide +kernel,rfl,by decide +kernel,by decide +kernel⟩
theorem qP:jc (Ctx.of dF (ak cJ).names bC) dG (aD cJ)=true:=by decide +kernel
theorem qj:∀ ds μ Q X,cW ds μ Q X->ds.length=jP.length:=by
 intro ds μ Q X h
 unfold cW at h
 rcases h with ⟨_,_,rfl,_⟩ | ⟨_,_,rfl,_⟩ <;> rfl
noncomputable abbrev iG:Stmt:=top 17
noncomputable def uK:List Str:=["thing","lengths","width"]
theorem Bk:aK iM uK (ak iG):=⟨rfl,rfl,rfl,by decide +kernel,rfl,by decide +kernel,by decide +kernel⟩
theorem Ft:jc (Ctx.of iM (ak iG).names bC) iU (aD iG)=true:=by decide +kernel
theorem Ds:∀ ds μ Q X,gj ds μ Q X->ds.length=uK.length:=by
 intro ds μ Q X h
 unfold gj at h
 rcases h with ⟨_,_,_,_,_,_,_,rfl,_⟩ | ⟨_,_,_,rfl,_⟩ <;> rfl
noncomputable abbrev iH:Stmt:=top 31
noncomputable def uL:List Str:=["way","lengths","width"]
theorem Bl:aK c7 uL (ak iH):=⟨rfl,rfl,rfl,by decide +kernel,rfl,by decide +kernel,by decide +kernel⟩
theorem Fv:jc (Ctx.of c7 (ak iH).names bC) dj (aD iH)=true:=by decide +kernel
theorem Dt:∀ ds μ Q,jh ds μ Q->ds.length=uL.length:=by
 intro ds μ Q h
 unfold jh at h
 obtain ⟨_,_,_,rfl,_⟩:=h; rfl
noncomputable abbrev Bo:Stmt:=top 32
noncomputable def M4:List Str:=["script"]
theorem V9:aK Hf M4 (ak Bo):=⟨rfl,rfl,rfl,by decide +kernel,rfl,by decide +kernel,by decide +kernel⟩
theorem Zy:jc (Ctx.of Hf (ak Bo).names bC) Hr (aD Bo)=true:=by decide +kernel
theorem X7:∀ ds μ Q,uf ds μ Q->ds.length=M4.length:=by
 intro ds μ Q h
 unfold uf at h
 obtain ⟨_,rfl,_⟩:=h; rfl
theorem Xo {K:PySem.W.Frag} {C0 D0:Addr} (a0:PySem.W.nsIn K mainGlobals (Str.ofString "NoWidth")=some (some (.ref C0))) (d0:PySem.W.nsIn K mainGlobals (Str.ofString "NoWidth")=some (some (.ref D0))) (e0:J8 K "NoWidth") (k0:PySem.W.kitOne K (.ref D0) (.ref C0)=some true):vI K false ["NoWidth"] [("NoWidth",true)]:=by
 refine ⟨[.ref C0],⟨.inl ⟨C0,rfl,a0⟩,trivial⟩,?_⟩
 intro p hp
 simp only [List.mem_cons,List.not_mem_nil,or_false] at hp
 subst hp
 ·obtain ⟨D,f1,f2⟩:=e0
  rw [d0] at f1; cases f1
  exact ⟨D0,d0,f2,by rw [if_neg Bool.false_ne_true]; exact ⟨_,rfl,k0⟩⟩
theorem Xn {K:PySem.W.Frag} { D0:Addr} (a0:PySem.W.nsIn K mainGlobals (Str.ofString "ValueError")=some none) (d0:PySem.W.nsIn K mainGlobals (Str.ofString "NoWidth")=some (some (.ref D0))) (e0:J8 K "NoWidth") (k0:PySem.W.kitOne K (.ref D0) (.type "ValueError")=some true):vI K false ["ValueError"] [("NoWidth",true)]:=by
 refine ⟨[.ty "ValueError"],⟨.inr ⟨rfl,a0,by decide +kernel,by decide +kernel⟩,trivial⟩,?_⟩
 intro p hp
 simp only [List.mem_cons,List.not_mem_nil,or_false] at hp
 subst hp
 ·obtain ⟨D,f1,f2⟩:=e0
  rw [d0] at f1; cases f1
  exact ⟨D0,d0,f2,by rw [if_neg Bool.false_ne_true]; exact ⟨_,rfl,k0⟩⟩
theorem Xm {K:PySem.W.Frag} {C0 D0:Addr} (a0:PySem.W.nsIn K mainGlobals (Str.ofString "NoRoom")=some (some (.ref C0))) (d0:PySem.W.nsIn K mainGlobals (Str.ofString "NoWidth")=some (some (.ref D0))) (e0:J8 K "NoWidth") (k0:PySem.W.kitOne K (.ref D0) (.ref C0)=some false):vI K false ["NoRoom"] [("NoWidth",false)]:=by
 refine ⟨[.ref C0],⟨.inl ⟨C0,rfl,a0⟩,trivial⟩,?_⟩
 intro p hp
 simp only [List.mem_cons,List.not_mem_nil,or_false] at hp
 subst hp
 ·obtain ⟨D,f1,f2⟩:=e0
  rw [d0] at f1; cases f1
  exact ⟨D0,d0,f2,by rw [if_neg Bool.false_ne_true]; exact ⟨_,rfl,k0⟩⟩
theorem su {K:PySem.W.Frag} {CP D0:Addr} (a:PySem.W.nsIn K mainGlobals (Str.ofString "PourError")=some (some (.ref CP))) (d0:PySem.W.nsIn K mainGlobals (Str.ofString "NoWidth")=some (some (.ref D0))) (k0:PySem.W.exmOne K (.ref D0) (.ref CP)=some true):PK K "PourError" ["NoWidth"]:=by
 refine ⟨CP,a,?_⟩
 intro c hc
 simp only [List.mem_cons,List.not_mem_nil,or_false] at hc
 subst hc
 ·exact ⟨D0,d0,k0⟩
set_option maxHeartbeats 0 in
theorem Fy {T:Top} {h:Heap} {f:Addr} {fd:FuncData} {nG:Tok} {o7:Tok} (X:T.K.In h) (G:h.Ns mainGlobals T.mg) (fr:vJ T.K bC) (dZ:PySem.W.nsIn T.K mainGlobals "LEAST_WIDTH" = some (some (.int 2 nG))) (fJ:PySem.W.nsIn T.K mainGlobals "MOST_WIDTH" = some (some (.int 8 o7))) (qL:PB T.K "NoWidth") (x0:vI T.K false ["NoWidth"] [("NoWidth",true)]) (x1:vI T.K false ["ValueError"] [("NoWidth",true)]) (x2:vI T.K false ["NoRoom"] [("NoWidth",false)]) (mH:PK T.K "PourError" ["NoWidth"]) (oH:aN T.K "is_whole" iD) (cU:aN T.K "one_stretch_further" aZ) (zX:aN T.K "_law_cell" pI) (Gi:aN T.K "_law_mix" uo) (zV:aN T.K "_law_take" pG) (vf:aN T.K "_law_whole" lQ) (zW:aN T.K "_law_more" pH) (jD:aN T.K "check_width" dR) (gF:aN T.K "least_parting" cN) (kj:aN T.K "is_stretch" eZ) (Gj:aN T.K "_law_box" uq) (oM:aN T.K "_law_lengths" iI) (mL:aN T.K "_law_no_width" gq) (vg:aN T.K "_law_table" lR) (dz:aN T.K "least_of_stretches" bA) (gG:aN T.K "fewest_passes" cO) (kh:aN T.K "level_plan" eY) (zU:aN T.K "table" pF) (fP:aN T.K "neighbour_plan" cJ) (oJ:aN T.K "is_table" iG) (oK:aN T.K "_law_refused" iH) (F:Ke T.K "law" "law" Bo f fd):cQ T.P T.w T.K T.mg T.base (mW T.P T.w) 23 f fd M4 (low T.K uf):=by
 have hb:=Hv X G fr
 have Qe:aR T "LEAST_WIDTH" (.int 2):=Ht (PySem.W.mg_of X G dZ)
 have Td:aR T "MOST_WIDTH" (.int 8):=Ht (PySem.W.mg_of X G fJ)
 have Fi:bF (aW T 0) (aR T) oE:=by
  repeat' first | exact trivial | refine And.intro ?_ ?_ | assumption | exact rfl | exact fun z=>absurd z (by decide)
 have nU:=iV oH X G Bj Fq hb (fun _ _ _ _ _ _=>len1 fun _=>rfl) Dr FJ Fi
 have lC:bF (aW T 0) (aR T) bT:=by
  repeat' first | exact trivial | refine And.intro ?_ ?_ | assumption | exact rfl | exact fun z=>absurd z (by decide)
 have lu:=iV cU X G jX lD hb (fun _ _ _ _ _ _=>R8 fun _ _ _=>rfl) kE lE lC
 have RN:bF (aW T 0) (aR T) tG:=by
  repeat' first | exact trivial | refine And.intro ?_ ?_ | assumption | exact rfl | exact fun z=>absurd z (by decide)
 have Qz:=iV zX X G Lk R3 hb (fun _ _ _ _ _ _=>len2 fun _ _=>rfl) Py Sy RN
 have WX:bF (aW T 0) (aR T) zL:=by
  repeat' first | exact trivial | refine And.intro ?_ ?_ | assumption | exact rfl | exact fun z=>absurd z (by decide)
 have VF:=iV Gi X G QM W4 hb (fun _ _ _ _ _ _=>len2 fun _ _=>rfl) T8 Xi WX
 have RL:bF (aW T 0) (aR T) tD:=by
  repeat' first | exact trivial | refine And.intro ?_ ?_ | assumption | exact rfl | exact fun z=>absurd z (by decide)
 have yD:=iV zV X G Li RZ hb (fun _ _ _ _ _ _=>len2 fun _ _=>rfl) Pu Sw RL
 have M8:bF (aW T 0) (aR T) jT:=by
  repeat' first | exact trivial | refine And.intro ?_ ?_ | assumption | exact rfl | exact fun z=>absurd z (by decide)
 have K1:=iV vf X G Ja Nm hb (fun _ _ _ _ _ _=>len1 fun _=>rfl) J6 Ci M8
 have RM:bF (aW T 0) (aR T) tE:=by
  repeat' first | exact trivial | refine And.intro ?_ ?_ | assumption | exact rfl | exact fun z=>absurd z (by decide)
 have Qx:=iV zW X G Lj R0 hb (fun _ _ _ _ _ _=>R8 fun _ _ _=>rfl) Px Sx RM
 have yw:=nU.up (show 1<=1 by decide)
 have Ag:aW T 1 (.Wa "NoWidth") Bh:=qL.at X G
 have wB:bF (aW T 1) (aR T) dY:=by
  repeat' first | exact trivial | refine And.intro ?_ ?_ | assumption | exact rfl | exact fun z=>absurd z (by decide)
 have fW:=qW jD X G um wC hb (fun _ _ _ _ _ _=>len1 fun _=>rfl) vC wD wB
 have nD:=lu.up (show 1<=1 by decide)
 have rO:bF (aW T 1) (aR T) eG:=by
  repeat' first | exact trivial | refine And.intro ?_ ?_ | assumption | exact rfl | exact fun z=>absurd z (by decide)
 have rM:=iV gF X G qI rQ hb (fun _ _ _ _ _ _=>abC fun _ _ _ _=>rfl) rB rW rO
 have Ai:=nU.up (show 1<=1 by decide)
 have za:bF (aW T 1) (aR T) ig:=by
  repeat' first | exact trivial | refine And.intro ?_ ?_ | assumption | exact rfl | exact fun z=>absurd z (by decide)
 have yC:=iV kj X G wu zy hb (fun _ _ _ _ _ _=>len1 fun _=>rfl) wV zF za
 have Qy:=Qz.up (show 1<=1 by decide)
 have Uk:=VF.up (show 1<=1 by decide)
 have WY:bF (aW T 1) (aR T) zM:=by
  repeat' first | exact trivial | refine And.intro ?_ ?_ | assumption | exact rfl | exact fun z=>absurd z (by decide)
 have VH:=iV Gj X G QS W5 hb (fun _ _ _ _ _ _=>len2 fun _ _=>rfl) T9 Xj WY
 have Ij:=yD.up (show 1<=1 by decide)
 have Fo:bF (aW T 1) (aR T) j9:=by
  repeat' first | exact trivial | refine And.intro ?_ ?_ | assumption | exact rfl | exact fun z=>absurd z (by decide)
 have Ej:=iV oM X G Bm Fw hb (fun _ _ _ _ _ _=>len2 fun _ _=>rfl) Du FQ Fo
 have Gy:=yD.up (show 1<=1 by decide)
 have Bx:bF (aW T 1) (aR T) jl:=by
  repeat' first | exact trivial | refine And.intro ?_ ?_ | assumption | exact rfl | exact fun z=>absurd z (by decide)
 have Ay:=iV mL X G yP BX hb (fun _ _ _ _ _ _=>len1 fun _=>rfl) Ab Cj Bx
 have K5:=Qx.up (show 1<=1 by decide)
 have M9:bF (aW T 1) (aR T) pX:=by
  repeat' first | exact trivial | refine And.intro ?_ ?_ | assumption | exact rfl | exact fun z=>absurd z (by decide)
 have K3:=iV vg X G Jb Np hb (fun _ _ _ _ _ _=>len2 fun _ _=>rfl) J7 Ob M9
 have nR:=rM.up (show 2<=2 by decide)
 have lV:bF (aW T 2) (aR T) cA:=by
  repeat' first | exact trivial | refine And.intro ?_ ?_ | assumption | exact rfl | exact fun z=>absurd z (by decide)
 have f9:=iV dz X G lB lX hb (fun _ _ _ _ _ _=>len2 fun _ _=>rfl) lF mD lV
 have gP:=fW.up (show 2<=2 by decide)
 have sG:=gP.calm
 have rP:bF (aW T 2) (aR T) eO:=by
  repeat' first | exact trivial | refine And.intro ?_ ?_ | assumption | exact rfl | exact fun z=>absurd z (by decide)
 have rN:=qW gG X G qJ rR hb (fun _ _ _ _ _ _=>len2 fun _ _=>rfl) rC rY rP
 have jy:=fW.up (show 2<=2 by decide)
 have vZ:=jy.calm
 have yZ:bF (aW T 2) (aR T) g8:=by
  repeat' first | exact trivial | refine And.intro ?_ ?_ | assumption | exact rfl | exact fun z=>absurd z (by decide)
 have yu:=qW kh X G wj zx hb (fun _ _ _ _ _ _=>len2 fun _ _=>rfl) wU zE yZ
 have nA:=fW.up (show 2<=3 by decide)
 have Dy:=nA.calm
 have tX:=f9.up (show 3<=3 by decide)
 have RK:bF (aW T 3) (aR T) pW:=by
  repeat' first | exact trivial | refine And.intro ?_ ?_ | assumption | exact rfl | exact fun z=>absurd z (by decide)
 have yt:=qW zU X G Lh RX hb (fun _ _ _ _ _ _=>len2 fun _ _=>rfl) Pr Sv RK
 have gD:=fW.up (show 2<=3 by decide)
 have rK:=gD.calm
 have nF:=f9.up (show 3<=3 by decide)
 have qN:bF (aW T 3) (aR T) dG:=by
  repeat' first | exact trivial | refine And.intro ?_ ?_ | assumption | exact rfl | exact fun z=>absurd z (by decide)
 have qG:=qW fP X G pC qP hb (fun _ _ _ _ _ _=>len2 fun _ _=>rfl) qj qR qN
 have qD:=yt.up (show 4<=4 by decide)
 have Ie:=qD.calm
 have Aj:=yC.up (show 2<=4 by decide)
 have Dz:=nU.up (show 1<=4 by decide)
 have Fj:bF (aW T 4) (aR T) iU:=by
  repeat' first | exact trivial | refine And.intro ?_ ?_ | assumption | exact rfl | exact fun z=>absurd z (by decide)
 have tZ:=qW oJ X G Bk Ft hb (fun _ _ _ _ _ _=>R8 fun _ _ _=>rfl) Ds FN Fj
 have qF:=yt.up (show 4<=5 by decide)
 have Ig:=qF.calm
 have nu:=tZ.up (show 5<=5 by decide)
 have Dw:=nu.calm
 have jd:=qG.up (show 4<=5 by decide)
 have vP:=jd.calm
 have jx:=rN.up (show 3<=5 by decide)
 have vY:=jx.calm
 have lA:=yu.up (show 3<=5 by decide)
 have Ah:=lA.calm
 have Uh:aW T 5 (.wG false ["NoWidth"] [("NoWidth",true)]) Bh:=x0.at X G
 have Ug:aW T 5 (.wG false ["ValueError"] [("NoWidth",true)]) Bh:=x1.at X G
 have Ue:aW T 5 (.wG false ["NoRoom"] [("NoWidth",false)]) Bh:=x2.at X G
 have Al:aW T 5 (.hdl "PourError" ["NoWidth"]) Bh:=mH.at X G
 have Fl:bF (aW T 5) (aR T) dj:=by
  repeat' first | exact trivial | refine And.intro ?_ ?_ | assumption | exact rfl | exact fun z=>absurd z (by decide)
 have Ei:=iV oK X G Bl Fv hb (fun _ _ _ _ _ _=>R8 fun _ _ _=>rfl) Dt FP Fl
 have VG:=VH.up (show 2<=6 by decide)
 have Uj:=yD.up (show 1<=6 by decide)
 have K6:=Ej.up (show 2<=6 by decide)
 have Qw:=K3.up (show 2<=6 by decide)
 have Ax:=yt.up (show 4<=6 by decide)
 have Ui:=Ax.calm
 have Qv:=K1.up (show 1<=6 by decide)
 have tY:=tZ.up (show 5<=6 by decide)
 have Kq:=tY.calm
 have Ka:=Ay.up (show 2<=6 by decide)
 have K4:=Ei.up (show 6<=6 by decide)
 have o_law:bF (aW T 6) (aR T) Hr:=by
  repeat' first | exact trivial | refine And.intro ?_ ?_ | assumption | exact rfl | exact fun z=>absurd z (by decide)
 exact Ow F V9 Zy hb o_law X7 ZK
end DW.lK
open PySem PySem.W PyProof.Rows
set_option maxRecDepth 100000 in
set_option maxHeartbeats 0 in
theorem PySem.Challenge.cw_pourwright_k45_tables_told_holds : PySem.Challenge.rw_pourwright_k45_tables_told.Holds := by
 w_on; o_law; k_head; (case hw=>w_witness2)
 k_fill
 refine DW.NZ (l:=PySem.Challenge.rw_pourwright_k45_tables_told) (k:=23) ?I rfl (by decide) rfl (fun w h Y=>by first | exact PySem.W.kIn_of Y | exact PySem.W.km_in_of Y) ?F
 case I=>kernel_rfl
 case F =>
  intro w mg fa h KX G hmg
  have oH:DW.aN (L2.KOf KX) "is_whole" DW.lK.iD:=by
   dsimp only [L2.KOf]
   refine' DW.aP ?a ?l ?c ?k
   (case a=>k_is); (case l=>k_is); (case c=>k_is); (case k=>k_is)
  have cU:DW.aN (L2.KOf KX) "one_stretch_further" DW.lK.aZ:=by
   dsimp only [L2.KOf]
   refine' DW.aP ?a ?l ?c ?k
   (case a=>k_is); (case l=>k_is); (case c=>k_is); (case k=>k_is)
  have zX:DW.aN (L2.KOf KX) "_law_cell" DW.lK.pI:=by
   dsimp only [L2.KOf]
   refine' DW.aP ?a ?l ?c ?k
   (case a=>k_is); (case l=>k_is); (case c=>k_is); (case k=>k_is)
  have Gi:DW.aN (L2.KOf KX) "_law_mix" DW.lK.uo:=by
   dsimp only [L2.KOf]
   refine' DW.aP ?a ?l ?c ?k
   (case a=>k_is); (case l=>k_is); (case c=>k_is); (case k=>k_is)
  have zV:DW.aN (L2.KOf KX) "_law_take" DW.lK.pG:=by
   dsimp only [L2.KOf]
   refine' DW.aP ?a ?l ?c ?k
   (case a=>k_is); (case l=>k_is); (case c=>k_is); (case k=>k_is)
  have vf:DW.aN (L2.KOf KX) "_law_whole" DW.lK.lQ:=by
   dsimp only [L2.KOf]
   refine' DW.aP ?a ?l ?c ?k
   (case a=>k_is); (case l=>k_is); (case c=>k_is); (case k=>k_is)
  have zW:DW.aN (L2.KOf KX) "_law_more" DW.lK.pH:=by
   dsimp only [L2.KOf]
   refine' DW.aP ?a ?l ?c ?k
   (case a=>k_is); (case l=>k_is); (case c=>k_is); (case k=>k_is)
  have jD:DW.aN (L2.KOf KX) "check_width" DW.lK.dR:=by
   dsimp only [L2.KOf]
   refine' DW.aP ?a ?l ?c ?k
   (case a=>k_is); (case l=>k_is); (case c=>k_is); (case k=>k_is)
  have gF:DW.aN (L2.KOf KX) "least_parting" DW.lK.cN:=by
   dsimp only [L2.KOf]
   refine' DW.aP ?a ?l ?c ?k
   (case a=>k_is); (case l=>k_is); (case c=>k_is); (case k=>k_is)
  have kj:DW.aN (L2.KOf KX) "is_stretch" DW.lK.eZ:=by
   dsimp only [L2.KOf]
   refine' DW.aP ?a ?l ?c ?k
   (case a=>k_is); (case l=>k_is); (case c=>k_is); (case k=>k_is)
  have Gj:DW.aN (L2.KOf KX) "_law_box" DW.lK.uq:=by
   dsimp only [L2.KOf]
   refine' DW.aP ?a ?l ?c ?k
   (case a=>k_is); (case l=>k_is); (case c=>k_is); (case k=>k_is)
  have oM:DW.aN (L2.KOf KX) "_law_lengths" DW.lK.iI:=by
   dsimp only [L2.KOf]
   refine' DW.aP ?a ?l ?c ?k
   (case a=>k_is); (case l=>k_is); (case c=>k_is); (case k=>k_is)
  have mL:DW.aN (L2.KOf KX) "_law_no_width" DW.lK.gq:=by
   dsimp only [L2.KOf]
   refine' DW.aP ?a ?l ?c ?k
   (case a=>k_is); (case l=>k_is); (case c=>k_is); (case k=>k_is)
  have vg:DW.aN (L2.KOf KX) "_law_table" DW.lK.lR:=by
   dsimp only [L2.KOf]
   refine' DW.aP ?a ?l ?c ?k
   (case a=>k_is); (case l=>k_is); (case c=>k_is); (case k=>k_is)
  have dz:DW.aN (L2.KOf KX) "least_of_stretches" DW.lK.bA:=by
   dsimp only [L2.KOf]
   refine' DW.aP ?a ?l ?c ?k
   (case a=>k_is); (case l=>k_is); (case c=>k_is); (case k=>k_is)
  have gG:DW.aN (L2.KOf KX) "fewest_passes" DW.lK.cO:=by
   dsimp only [L2.KOf]
   refine' DW.aP ?a ?l ?c ?k
   (case a=>k_is); (case l=>k_is); (case c=>k_is); (case k=>k_is)
  have kh:DW.aN (L2.KOf KX) "level_plan" DW.lK.eY:=by
   dsimp only [L2.KOf]
   refine' DW.aP ?a ?l ?c ?k
   (case a=>k_is); (case l=>k_is); (case c=>k_is); (case k=>k_is)
  have zU:DW.aN (L2.KOf KX) "table" DW.lK.pF:=by
   dsimp only [L2.KOf]
   refine' DW.aP ?a ?l ?c ?k
   (case a=>k_is); (case l=>k_is); (case c=>k_is); (case k=>k_is)
  have fP:DW.aN (L2.KOf KX) "neighbour_plan" DW.lK.cJ:=by
   dsimp only [L2.KOf]
   refine' DW.aP ?a ?l ?c ?k
   (case a=>k_is); (case l=>k_is); (case c=>k_is); (case k=>k_is)
  have oJ:DW.aN (L2.KOf KX) "is_table" DW.lK.iG:=by
   dsimp only [L2.KOf]
   refine' DW.aP ?a ?l ?c ?k
   (case a=>k_is); (case l=>k_is); (case c=>k_is); (case k=>k_is)
  have oK:DW.aN (L2.KOf KX) "_law_refused" DW.lK.iH:=by
   dsimp only [L2.KOf]
   refine' DW.aP ?a ?l ?c ?k
   (case a=>k_is); (case l=>k_is); (case c=>k_is); (case k=>k_is)
  have aah:DW.aN (L2.KOf KX) "law" DW.lK.Bo:=by
   dsimp only [L2.KOf]
   refine' DW.aP ?a ?l ?c ?k
   (case a=>k_is); (case l=>k_is); (case c=>k_is); (case k=>k_is)
  have qL:DW.PB (L2.KOf KX) "NoWidth":=by
   dsimp only [L2.KOf]
   refine' DW.QV ?a ?b
   (case a=>k_is); (case b=>k_exc)
  have nO:DW.J8 (L2.KOf KX) "NoWidth":=by
   dsimp only [L2.KOf]
   refine' DW.Ql ?a ?b ?c ?d ?e ?f ?g ?h ?i
   (case a=>k_is); (case b=>k_is); (case c=>k_is); (case d=>k_is); (case e=>k_is); (case f=>k_is); (case g=>k_is); (case h=>k_is); (case i=>k_is)
  have x0:DW.vI (L2.KOf KX) false ["NoWidth"] [("NoWidth",true)]:=by
   dsimp only [L2.KOf] at *
   refine' DW.lK.Xo ?a0 ?d0 nO ?k0
   (case a0=>k_is); (case d0=>k_is); (case k0=>kit_is)
  have x1:DW.vI (L2.KOf KX) false ["ValueError"] [("NoWidth",true)]:=by
   dsimp only [L2.KOf] at *
   refine' DW.lK.Xn ?a0 ?d0 nO ?k0
   (case a0=>k_is); (case d0=>k_is); (case k0=>kit_is)
  have x2:DW.vI (L2.KOf KX) false ["NoRoom"] [("NoWidth",false)]:=by
   dsimp only [L2.KOf] at *
   refine' DW.lK.Xm ?a0 ?d0 nO ?k0
   (case a0=>k_is); (case d0=>k_is); (case k0=>kit_is)
  have mH:DW.PK (L2.KOf KX) "PourError" ["NoWidth"]:=by
   dsimp only [L2.KOf]
   refine' DW.lK.su ?a ?d0 ?k0
   (case a=>k_is); (case d0=>k_is); (case k0=>kts_exm)
  have fr:DW.vJ (L2.KOf KX) DW.lK.bC:=by
   dsimp only [L2.KOf,DW.lK.bC,DW.vJ]
   refine' ⟨?z0,?z1,?z2,?z3,?z4,?z5,?z6,?z7,?z8,?z9,?z10,?z11,?z12,?z13,?z14,trivial⟩
   (case z0=>k_is)
   (case z1=>k_is)
   (case z2=>k_is)
   (case z3=>k_is)
   (case z4=>k_is)
   (case z5=>k_is)
   (case z6=>k_is)
   (case z7=>k_is)
   (case z8=>k_is)
   (case z9=>k_is)
   (case z10=>k_is)
   (case z11=>k_is)
   (case z12=>k_is)
   (case z13=>k_is)
   (case z14=>k_is)
  have dZ:∃ t,PySem.W.nsIn (L2.KOf KX) mainGlobals "LEAST_WIDTH" = some (some (.int 2 t)):=by
   dsimp only [L2.KOf]
   refine' DW.Cw ?z
   (case z=>k_is)
  obtain ⟨nG,dZ⟩:=dZ
  have fJ:∃ t,PySem.W.nsIn (L2.KOf KX) mainGlobals "MOST_WIDTH" = some (some (.int 8 t)):=by
   dsimp only [L2.KOf]
   refine' DW.Cw ?z
   (case z=>k_is)
  obtain ⟨o7,fJ⟩:=fJ
  obtain ⟨f,fd,e1,F⟩:=aah
  have e2:=hmg.symm.trans (PySem.W.mg_of KX G e1)
  cases e2
  refine ⟨fd,?_,fun base _ _=>DW.lK.Fy (T:=⟨_,w,_,mg,base⟩) KX G fr dZ fJ qL x0 x1 x2 mH oH cU zX Gi zV vf zW jD gF kj Gj oM mL vg dz gG kh zU fP oJ oK F⟩
  obtain ⟨oc,od,kV,doc,pm,an,cdv,ct,osl,rfl,lk,hcd⟩:=F.ex
  exact fun s u=>.of_eq rfl
#print axioms PySem.Challenge.cw_pourwright_k45_tables_told_holds
