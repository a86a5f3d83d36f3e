import PyProof.Rows.All
import Wide.All
import OpenK.AllK
import Wide.FinOn
import Lean
import PyProof.EqAt
import PyProof.EqKinds
import PyProof.TupleCall
import KE.KTabLook
import PyProof.StrLawsChain
import PyProof.StrLawsFirst
import PyProof.StrLawsJoin
import PyProof.MeetsStr2
import PyProof.ReprLen
import KE.KIntText
import PySem.Syntax
import PySem.Value
import PyProof.StrOps2
import PySem.Eval
import PyProof.NeKinds
import PyProof.StrLawsIn
import KE.KEqDict
import PyProof.DictTable
import PyProof.SliceStr2
import PyProof.ReprRoads
import PyProof.CallFns
import KE.KSortTup
import PyProof.Rows.SortWalk
import PyProof.Dict
import PyProof.DictKinds
import PyProof.StrOps
import KE.KDictList
import KE.KLam
import PyProof.FitsInt
import PyProof.ListRange
import PyProof.TupleOfSeq
import PyProof.Rows.FactsT2
import PyProof.ZipIter
import PyProof.WalksEnum
import PyProof.EnumMake
import KE.KRevIter
import PyProof.CollectIter
import PyProof.EnumStmt
import KE.KTryMore
import OpenK.KMake
import PyProof.AttrMiss
import PyProof.FactsAll.enumerate
import KE.KDictOf
import PyProof.Rows.SeqMore2
import PyProof.FactsAll.str_0
import PyProof.FactsAll.str_5
import PyProof.FactsAll.str_7
import PyProof.FactsAll.tuple_2
import PyProof.FactsAll.tuple_3
import PyProof.MinMaxWalk
import PyProof.MeetsSeq
import PyProof.Rows.FStr
import PyProof.Rows.SetFrom
import PyProof.WalksMore
import PyProof.TupleIter
import PyProof.FactsAll.tuple_0
import PySem.Challenge.RW_pourwright_k42_goings_looked_at
set_option autoImplicit false
set_option linter.all false
set_option maxRecDepth 100000
set_option exponentiation.threshold 1000
set_option Elab.async false
namespace PySem.W.Fast
def tw5515859757622179839:=0
def tw1424932875852884831:=0
def tw16172465051975678495:=0
def tw7618415258025353695:=0
def tw3185783116290259103:=0
def tw16832018468770901119:=0
def tw724108291029169183:=0
def tw17586662803881313311:=0
def tw7472060072246271870:=0
def tw6876075752076207550:=0
def tw18367779282231154878:=0
def tw6083505440596080734:=0
def tw8138549549373492893:=0
def tw2714986558830660189:=0
def tw18370671990099301693:=0
def tw164709851901703453:=0
def tw2029249815153183901:=0
def tw4220280004181350429:=0
def tw16165083747288062780:=0
def tw12173125839728049884:=0
def tw8630126081731093820:=0
def tw14645287006085592380:=0
def tw13931416756587232348:=0
def tw11243661968507922427:=0
def tw3473736022741709691:=0
def tw11202372948470317723:=0
def tw6356130734986455483:=0
def tw16600267912747668763:=0
def tw6110742298745565178:=0
def tw18343521139717076826:=0
def tw12469431694307124890:=0
def tw13634587734926236282:=0
def tw3191088741006224922:=0
def tw4755807319816970714:=0
def tw4526586244149588410:=0
def tw17177540425791302042:=0
def tw9194112437915333914:=0
def tw15674535965622615961:=0
def tw16387637066877045433:=0
def tw4555440433687467673:=0
def tw3037421483181700665:=0
def tw17626318805550257625:=0
def tw7679522970731274553:=0
def tw3071110104075707641:=0
def tw15595098464544994489:=0
def tw18211811359905145945:=0
def tw862899277209964184:=0
def tw4586451465055334936:=0
def tw9313935564737899576:=0
def tw15777164919762614167:=0
def tw14307152719586223959:=0
def tw10087812011138195127:=0
def tw2053076179516990967:=0
def tw2493740070812990871:=0
def tw8936617579629127991:=0
def tw5839834297514946743:=0
def tw9638004743242544151:=0
def tw5900131299958034678:=0
def tw6085082808024723638:=0
def tw8257554483381472310:=0
def tw10002024999455630101:=0
def tw12886755207747213429:=0
def tw13433555406979371860:=0
def tw17034432311758740244:=0
def tw10233941951788792532:=0
def tw7228609213163542100:=0
def tw8110030846196844916:=0
def tw14309147690505060692:=0
def tw3309913581674667220:=0
def tw4132147880494900372:=0
def tw2168334291682285588:=0
def tw2756760321769947859:=0
def tw5563223716902454803:=0
def tw1309903164963131891:=0
def tw10220147140476638675:=0
def tw2909522633303206738:=0
def tw7991260817618257682:=0
def tw6134220545722991314:=0
def tw18219908091485802098:=0
def tw15367398998325801490:=0
def tw5158963147615098098:=0
def tw7127378993427289330:=0
def tw13089720440051632306:=0
def tw16452327635938011186:=0
def tw10425686705796230289:=0
def tw10075506266559751152:=0
def tw1696592610285543312:=0
def tw12726372190447807696:=0
def tw9844583522287694831:=0
def tw5250444792457110095:=0
def tw13014902925178869199:=0
def tw14542344003075279055:=0
def tw11597030247695634575:=0
def tw8985709075618874447:=0
def tw8896740737281514478:=0
def tw10666724040957959918:=0
def tw9534322626019910318:=0
def tw2966648243098053102:=0
def tw4772965616745033102:=0
def tw3297295756626008270:=0
def tw8593846850744877070:=0
def tw6202336553846180749:=0
def tw12470299447651093293:=0
def tw7371706703524432685:=0
def tw9161064311329178157:=0
def tw10691917762568325517:=0
def tw6982998913663231852:=0
def tw13052799814118329164:=0
def tw17580697528685390412:=0
def tw10436257413200673996:=0
def tw13191671546486786027:=0
def tw8053936882049038283:=0
def tw4058748357558958987:=0
def tw5608781244456431243:=0
def tw2114534929247236491:=0
def tw6694447728890663243:=0
def tw11603142032480938123:=0
def tw17011811156212020331:=0
def tw9823900820834626538:=0
def tw14321268963491077962:=0
def tw9136079894814298474:=0
def tw18284193433568850250:=0
def tw16560664624327670026:=0
def tw14189952070662362378:=0
def tw11383386211717462793:=0
def tw11663900246916275625:=0
def tw13816377039647707497:=0
def tw10033088128222470249:=0
def tw2834539436093247497:=0
def tw15556126977462606824:=0
def tw7490299359695903688:=0
def tw7666564427911723880:=0
def tw13025944299435338312:=0
def tw3492615639057659912:=0
def tw3405236835432025096:=0
def tw13386088867424950247:=0
def tw11238663331759710151:=0
def tw7936892849678388935:=0
def tw597644823306296807:=0
def tw4765661379429981479:=0
def tw6644453288019906663:=0
def tw12071409996425280934:=0
def tw14150207573868836966:=0
def tw1070834872999191590:=0
def tw12390364323856818533:=0
def tw17929340649870173445:=0
def tw9703237318992916228:=0
def tw7408340950057864836:=0
def tw11303924505038326180:=0
def tw1868874789459184004:=0
def tw6959993083122748804:=0
def tw16339636998374853732:=0
def tw18402301963238126660:=0
def tw17254467838001286691:=0
def tw10138319307432217091:=0
def tw11539038790834687459:=0
def tw13026563517318684035:=0
def tw1933268797877651715:=0
def tw11815477458636007587:=0
def tw13745735921185878786:=0
def tw12166541394364618146:=0
def tw1951971706906445218:=0
def tw15518394048252875074:=0
def tw14115381960046489890:=0
def tw11441253928648308994:=0
def tw8213534251429784802:=0
def tw8437533608957653218:=0
def tw5018828989549275330:=0
def tw8552926516778421185:=0
def tw12382541458801378081:=0
def tw6009665191192121089:=0
def tw3959417378953351841:=0
def tw11816601014256233057:=0
def tw17085263076530905569:=0
def tw6458044759432027425:=0
def tw11107291724445595873:=0
def tw1848787183568502592:=0
def tw11609250110059090560:=0
def tw868584933726729824:=0
def tw8931952621870452256:=0
def tw8793096994723296144:=0
def tw6444837743744508858:=0
end PySem.W.Fast
section
set_option Elab.async false
namespace L2
open PySem PySem.Spec PyProof.Rows
noncomputable abbrev Key:=Sum Int Str
noncomputable def Vah:Key->Value->Bool
 | .inl k,v=>Value.isInt k v
 | .inr x,v=>Value.isStrOf x v
noncomputable def keyH (w:World):Key->Int
 | .inl k=>hashInt k
 | .inr x=>hashStr w x
theorem Yd:∀ {k:Key} {v:Value},Vah k v=true->(∃ i t,k=Sum.inl i/\v=Value.int i t)∨(∃ x t,k=Sum.inr x/\v=Value.str x t)
 | .inl i,v,h=>by
  obtain ⟨t,e⟩:=Value.isInt_shape (k:=i) (v:=v) h
  exact .inl ⟨i,t,rfl,e⟩
 | .inr x,v,h=>by
  obtain ⟨t,e⟩:=Value.isStrOf_shape (x:=x) (v:=v) h
  exact .inr ⟨x,t,rfl,e⟩
theorem Van (i:Int) (t:Tok):Vah (.inl i) (.int i t)=true:=by simp [Vah,Value.isInt]
theorem Wan (x:Str) (t:Tok):Vah (.inr x) (.str x t)=true:=by simp [Vah,Value.isStrOf]
theorem key_ll (a b:Int):decide ((Sum.inl a:Key)=Sum.inl b)=(a == b):=by
 by_cases e:a=b
 ·subst e; simp
 ·have h:¬ (Sum.inl a:Key)=Sum.inl b:=fun q=>e (Sum.inl.inj q)
  rw [decide_eq_false h]
  exact (beq_eq_false_iff_ne.mpr e).symm
theorem key_rr (a b:Str):decide ((Sum.inr a:Key)=Sum.inr b)=decide (a=b):=by
 by_cases e:a=b
 ·subst e; simp
 ·have h:¬ (Sum.inr a:Key)=Sum.inr b:=fun q=>e (Sum.inr.inj q)
  rw [decide_eq_false h,decide_eq_false e]
theorem key_lr (a:Int) (b:Str):decide ((Sum.inl a:Key)=Sum.inr b)=false:=decide_eq_false (fun q=>nomatch q)
theorem key_rl (a:Str) (b:Int):decide ((Sum.inr a:Key)=Sum.inl b)=false:=decide_eq_false (fun q=>nomatch q)
noncomputable def Xe (prog:Program) (w:World):PySem.KeyKind prog w Key where
 is:=Vah
 hash:=keyH w
 inj:=fun v a b ha hb=>by
  rcases Yd ha with ⟨i,t,rfl,rfl⟩ | ⟨x,t,rfl,rfl⟩
  ·rcases Yd hb with ⟨j,u,rfl,e⟩ | ⟨y,u,rfl,e⟩
   ·injection e with e1 _; rw [e1]
   ·exact nomatch e
  ·rcases Yd hb with ⟨j,u,rfl,e⟩ | ⟨y,u,rfl,e⟩
   ·exact nomatch e
   ·injection e with e1 _; rw [e1]
 byValue:=fun k v h=>by
  rcases Yd h with ⟨i,t,rfl,rfl⟩ | ⟨x,t,rfl,rfl⟩ <;> rfl
 pyHash:=fun hv h=>by
  rcases Yd hv with ⟨i,t,rfl,rfl⟩ | ⟨x,t,rfl,rfl⟩
  ·exact wpAny_pyHash_int h
  ·exact wpAny_pyHash_str h
 eqBool:=fun hu hv h=>by
  rcases Yd hu with ⟨i,t,rfl,rfl⟩ | ⟨x,t,rfl,rfl⟩
  ·rcases Yd hv with ⟨j,u,rfl,rfl⟩ | ⟨y,u,rfl,rfl⟩
   ·rw [key_ll] at h; exact wpAny_eqBool_int h
   ·rw [key_lr] at h; exact SeqAt.EqAt.int_str i t y u _ _ _ _ h
  ·rcases Yd hv with ⟨j,u,rfl,rfl⟩ | ⟨y,u,rfl,rfl⟩
   ·rw [key_rl] at h; exact SeqAt.EqAt.str_int x t j u _ _ _ _ h
   ·rw [key_rr] at h; exact wpAny_eqBool_str h
 «strs»:=fun k x t v h=>by
  rcases Yd h with ⟨i,u,rfl,e⟩ | ⟨y,u,rfl,e⟩
  ·exact nomatch e
  ·injection e with e1 _
   subst e1
   cases v <;> rfl
theorem Yav (prog:Program) (w:World) (i:Int) (t:Tok):(Xe prog w).is (.inl i) (.int i t)=true:=Van i t
theorem Zav (prog:Program) (w:World) (x:Str) (t:Tok):(Xe prog w).is (.inr x) (.str x t)=true:=Wan x t
end L2
namespace L2
open PySem PySem.Spec PyProof.Rows
inductive V where
 | non | bl (b:Bool) | int (i:Int) | str (x:Str) | byt (b:Array UInt8) | flt (b:UInt64) | ref (a:Addr) | ty (n:String)
 deriving DecidableEq
noncomputable def RelV:V->Value->Prop
 | .non,u=>u=Value.none
 | .bl b,u=>u=Value.bool b
 | .int i,u=>∃ t,u=Value.int i t
 | .str x,u=>∃ t,u=Value.str x t
 | .byt b,u=>∃ t,u=Value.bytes b t
 | .flt b,u=>∃ t,u=Value.float b t
 | .ref a,u=>u=Value.ref a
 | .ty n,u=>u=Value.type n
noncomputable abbrev Vals:List V->List Value->Prop:=Paired RelV
theorem Vals.length {xs:List V} {us:List Value} (r:Vals xs us):xs.length=us.length:=Paired.length r
theorem Vals.get:∀ {xs:List V} {us:List Value} {i:Nat} {x:V},Vals xs us->xs[i]? = some x->∃ u,us[i]? = some u/\RelV x u
 | _,_,_,_,.nil,e=>by simp at e
 | _,_,0,_,.cons r _,e=>by simp at e; subst e; exact ⟨_,rfl,r⟩
 | _,_,i + 1,x,.cons _ t,e=>by
  obtain ⟨u,h1,h2⟩:=Vals.get (i:=i) (x:=x) t (by simpa using e)
  exact ⟨u,by simpa using h1,h2⟩
theorem Vals.set {x:V} {u:Value} (r:RelV x u):∀ {xs:List V} {us:List Value} (i:Nat),Vals xs us->Vals (xs.set i x) (us.set i u)
 | _,_,_,.nil=>.nil
 | _,_,0,.cons _ t=>.cons r t
 | _,_,i + 1,.cons q t=>.cons q (Vals.set r i t)
theorem Vals.append:∀ {xs ys:List V} {us ws:List Value},Vals xs us->Vals ys ws->Vals (xs ++ ys) (us ++ ws)
 | _,_,_,_,.nil,s=>s
 | _,_,_,_,.cons r t,s=>.cons r (Vals.append t s)
theorem Vals.take:∀ {xs:List V} {us:List Value} (n:Nat),Vals xs us->Vals (xs.take n) (us.take n)
 | _,_,0,_=>.nil
 | _,_,_ + 1,.nil=>.nil
 | _,_,n + 1,.cons r t=>.cons r (Vals.take n t)
theorem Vals.drop:∀ {xs:List V} {us:List Value} (n:Nat),Vals xs us->Vals (xs.drop n) (us.drop n)
 | _,_,0,r=>r
 | _,_,_ + 1,.nil=>.nil
 | _,_,n + 1,.cons _ t=>Vals.drop n t
noncomputable def RelO:Option V->Option Value->Prop
 | some v,some u=>RelV v u
 | none,none=>True
 | _,_=>False
noncomputable def KV {κ:Type}:List (κ×V)->List (κ×Value)->Prop:=Paired fun (p:κ×V) (q:κ×Value)=>p.1=q.1/\RelV p.2 q.2
noncomputable def kV:Key->V
 | .inl i=>.int i
 | .inr x=>.str x
structure Tab where
 q:Str
 ps:Array Value
instance:HAppend Tab (Array Value) Tab:=⟨fun t m=>⟨t.q,t.ps ++ m⟩⟩
theorem Tab.assoc (t:Tab) (a b:Array Value):t ++ a ++ b=t ++ (a ++ b):=by show Tab.mk t.q (t.ps ++ a ++ b)=Tab.mk t.q (t.ps ++ (a ++ b)); rw [Array.append_assoc]
@[simp] theorem Tab.nil (t:Tab):t ++ (#[]:Array Value)=t:=by show Tab.mk t.q (t.ps ++ #[])=t; rw [Array.append_empty]
inductive HO where
  | lst (xs:List V)
  | tup (xs:List V)
  | dK (kvs:List (Key×V)) | dT (kvs:List (List Key×V))
  | set (S:Int->Bool) (n:Nat)
  | ins (C dx:Addr) (fs:List (Str×V))
  | own (x:Addr)
  | xd (fs:List (Str×V))
  | met (f x:Addr)
  | rng (lo hi:Int)
  | frz (o:Obj) (u:HO)
  | tbl (t:Tab)
  | ext (φ:Heap->Prop)
noncomputable abbrev Hp:=Addr->Option HO
noncomputable def upd (H:Hp) (a:Addr) (o:HO):Hp:=fun b=>if b=a then some o else H b
theorem Xb {H:Hp} {a:Addr} {o:HO}:upd H a o a=some o:=by unfold upd; rw [if_pos rfl]
theorem Va {H:Hp} {a b:Addr} {o:HO} (h:b≠a):upd H a o b=H b:=by unfold upd; rw [if_neg h]
theorem Wb {H:Hp} {a b:Addr} {o:HO} (h:H a=some o) (h':H b=none):a≠b:=by
 intro e; subst e; rw [h] at h'; cases h'
noncomputable def IsTupN (h:Heap) (a:Addr) (items:Array Value):Prop:=∃ o,h.get? a=some o/\o.cls = .type "tuple"/\∃ n,o.data = .seq items n/\o.dict=none
theorem IsTupN.is {h:Heap} {a:Addr} {items:Array Value} (x:IsTupN h a items):IsTup h a items:=by obtain ⟨o,e,c,n,d,_⟩:=x; exact ⟨o,e,c,n,d⟩
theorem IsTupN.lt {h:Heap} {a:Addr} {items:Array Value} (x:IsTupN h a items):a < h.objs.size:=by obtain ⟨o,e,_⟩:=x; exact Heap.lt_size e
theorem IsTupN.new (h:Heap) (items:Array Value):IsTupN (h.push { cls:=.type "tuple",data:=.seq items }) h.objs.size items:=⟨_,Heap.get?_push_size _ rfl,rfl,_,rfl,rfl⟩
section
variable (P:Program) (w:World)
noncomputable def ObjOk (H:Hp) (h:Heap) (a:Addr):HO->Prop
 | .lst xs=>xs.length<=sizeLine/\∃ (its:List Value) (n:Nat),Vals xs its/\h.get? a=some { cls:=.type "list",data:=.seq its.toArray n }
 | .tup xs=>xs.length<=sizeLine/\∃ its:List Value,Vals xs its/\IsTupN h a its.toArray
 | .dK kvs=>kvs.length<=sizeLine/\(a == sysModules)=false/\∃ vs,KV kvs vs/\h.DictOf (Xe P w) a vs
 | .dT kvs=>kvs.length<=sizeLine/\(a == sysModules)=false/\∃ xs:List (List Key×Addr×Value),
   Paired (fun (p:List Key×V) (q:List Key×Addr×Value)=>p.1=q.1/\H q.2.1=some (.tup (p.1.map kV))/\RelV p.2 q.2.2) kvs xs /\
   ∃ o es ep,h.get? a=some o/\o.ExactDict/\o.data = .dict es ep/\es.toList=xs.map (entryOfKey (tupleKind (Xe P w)))/\(xs.map (·.1)).Nodup
 | .set S n=>h.SetOf (intKind P w) a S n
 | .ins C dx fs=>H dx=some (.own a)/\fs.length<=1000/\dx≠a/\h.get? a=some (PySem.W.instObj C dx) /\
   ∃ mA,h.Ns1 dx mA/\(∀ f,RelO (fs.lookup f) (mA f))/\PySem.Within mA (fs.map (·.1))
 | .own _=>∃ o,h.get? a=some o
 | .xd fs=>∃ mA,h.Ns1 a mA/\∀ f,RelO (fs.lookup f) (mA f)
 | .rng lo hi=>∃ t u v,h.get? a=some { cls:=.type "range",data:=.fields #[.int lo t,.int hi u,.int 1 v] }
 | .frz o u=>h.get? a=some o/\ObjOk H h a u
 | .tbl t=>h.get? a=some { cls:=.none,data:=.fields t.ps }/\TriplesOk t.ps.toList/\∀ pos cv,codeAmong pos t.ps.toList=some cv->∃ c oc vs tq,cv = .ref c/\H c=some (.own a)/\h.get? c=some oc/\oc.data = .fields vs/\vs[1]? = some (.str t.q tq)
 | .met f x=>h.get? a=some (PySem.W.methodObj (.ref f) (.ref x))
 | .ext φ=>φ h/\(∃ o,h.get? a=some o)/\∀ h1 h2:Heap,φ h1->(∀ o,h1.get? a=some o->h2.get? a=some o)->φ h2
noncomputable def HOk (H:Hp) (h:Heap):Prop:=∀ a o,H a=some o->ObjOk P w H h a o
end
section
variable {P:Program} {w:World} {H H':Hp} {h h':Heap} {a:Addr} {o:HO}
theorem ObjOk.lt (x:ObjOk P w H h a o):a < h.objs.size:=by
 cases o with
 | lst xs=>obtain ⟨_,_,_,_,e⟩:=x; exact Heap.lt_size e
 | tup xs=>obtain ⟨_,_,_,p⟩:=x; exact p.lt
 | dK kvs=>obtain ⟨_,_,_,_,o,_,_,e,_⟩:=x; exact Heap.lt_size e
 | dT kvs=>obtain ⟨_,_,_,_,o,_,_,e,_⟩:=x; exact Heap.lt_size e
 | set S n=>obtain ⟨o,_,_,_,e,_⟩:=x; exact Heap.lt_size e
 | ins C dx fs=>obtain ⟨_,_,_,e,_⟩:=x; exact Heap.lt_size e
 | own y=>obtain ⟨_,e⟩:=x; exact Heap.lt_size e
 | xd fs=>obtain ⟨_,⟨_,_,_,e,_⟩,_⟩:=x; exact Heap.lt_size e
 | rng lo hi=>obtain ⟨_,_,_,e⟩:=x; exact Heap.lt_size e
 | frz ob u=>obtain ⟨e,_⟩:=x; exact Heap.lt_size e
 | tbl t=>exact Heap.lt_size (show h.get? a=some _ from x.1)
 | met f y=>exact Heap.lt_size (show h.get? a=some _ from x)
 | ext φ=>obtain ⟨_,⟨_,e⟩,_⟩:=x; exact Heap.lt_size e
theorem Paired.mapP {α β:Type} {F G:α->β->Prop}:∀ {l₁:List α} {l₂:List β},Paired F l₁ l₂->(∀ a b,F a b->G a b)->Paired G l₁ l₂
 | _,_,.nil,_=>.nil
 | _,_,.cons r t,f=>.cons (f _ _ r) (Paired.mapP t f)
theorem ObjOk.stay (x:ObjOk P w H h a o) (k:∀ b u,(b=a∨H b=some (.own a))->h.get? b=some u->h'.get? b=some u)
  (ho:∀ b,H b=some (.own a)->H' b=some (.own a)) (ht:∀ b xs,H b=some (.tup xs)->H' b=some (.tup xs)):ObjOk P w H' h' a o:=by
 induction o with
 | lst xs=>obtain ⟨z,its,n,r,e⟩:=x; exact ⟨z,its,n,r,k _ _ (.inl rfl) e⟩
 | tup xs=>obtain ⟨z,its,r,ob,e,c⟩:=x; exact ⟨z,its,r,ob,k _ _ (.inl rfl) e,c⟩
 | dK kvs=>obtain ⟨z,y,vs,r,ob,es,ep,e,c⟩:=x; exact ⟨z,y,vs,r,ob,es,ep,k _ _ (.inl rfl) e,c⟩
 | dT kvs =>
  obtain ⟨z,y,xs,r,ob,es,ep,e,c⟩:=x
  exact ⟨z,y,xs,Paired.mapP r fun p q z=>⟨z.1,ht _ _ z.2.1,z.2.2⟩,ob,es,ep,k _ _ (.inl rfl) e,c⟩
 | set S n=>obtain ⟨ob,es,ep,t,e,c⟩:=x; exact ⟨ob,es,ep,t,k _ _ (.inl rfl) e,c⟩
 | ins C dx fs =>
  obtain ⟨d,z,ne,e,mA,⟨od,es,ep,e2,c⟩,r⟩:=x
  exact ⟨ho _ d,z,ne,k _ _ (.inl rfl) e,mA,⟨od,es,ep,k _ _ (.inr d) e2,c⟩,r⟩
 | own y=>obtain ⟨ob,e⟩:=x; exact ⟨ob,k _ _ (.inl rfl) e⟩
 | xd fs=>obtain ⟨mA,⟨od,es,ep,e,c⟩,r⟩:=x; exact ⟨mA,⟨od,es,ep,k _ _ (.inl rfl) e,c⟩,r⟩
 | rng lo hi=>obtain ⟨t,u,v,e⟩:=x; exact ⟨t,u,v,k _ _ (.inl rfl) e⟩
 | frz ob u ih=>obtain ⟨e,q⟩:=x; exact ⟨k _ _ (.inl rfl) e,ih q⟩
 | tbl t =>
  obtain ⟨e,z,q⟩:=x
  refine ⟨k a _ (.inl rfl) e,z,fun pos cv y=>?_⟩
  obtain ⟨c,oc,vs,tq,r1,r2,r3,r4⟩:=q pos cv y
  exact ⟨c,oc,vs,tq,r1,ho _ r2,k _ _ (.inr r2) r3,r4⟩
 | met f y =>
  have e:h.get? a=some (PySem.W.methodObj (.ref f) (.ref y)):=x
  show h'.get? a=some (PySem.W.methodObj (.ref f) (.ref y))
  exact k a _ (.inl rfl) e
 | ext φ=>obtain ⟨p,⟨o,e⟩,st⟩:=x; exact ⟨st _ _ p fun o q=>k _ _ (.inl rfl) q,⟨o,k _ _ (.inl rfl) e⟩,st⟩
theorem HOk.lt (x:HOk P w H h) (e:H a=some o):a < h.objs.size:=(x a o e).lt
theorem HOk.fresh (x:HOk P w H h) (e:h.objs.size<=a):H a=none:=by
 cases q:H a with
 | none=>rfl
 | some u=>exact absurd (Nat.lt_of_lt_of_le (x.lt q) e) (Nat.lt_irrefl _)
theorem HOk.kept (x:HOk P w H h) (k:∀ b u,h.get? b=some u->h'.get? b=some u):HOk P w H h':=fun a o e =>
 (x a o e).stay (fun b u _ q=>k b u q) (fun _ q=>q) fun _ _ q=>q
theorem HOk.laid (x:HOk P w H h) (k:∀ b u,h.get? b=some u->h'.get? b=some u) (hp:h.objs.size<=a) (new:ObjOk P w (upd H a o) h' a o):HOk P w (upd H a o) h':=fun b u e=>by
 have hn:=x.fresh hp
 by_cases hb:b=a
 ·subst hb; rw [Xb] at e; cases e; exact new
 ·rw [Va hb] at e
  exact (x b u e).stay (fun c v _ q=>k c v q) (fun c q=>by rw [Va (Wb q hn)]; exact q) fun c xs q=>by rw [Va (Wb q hn)]; exact q
end
noncomputable def Rd (H:Hp) (a:Addr) (u:HO):Prop:=H a=some u∨∃ o,H a=some (.frz o u)
theorem Rd.of {H:Hp} {a:Addr} {u:HO} (h:H a=some u):Rd H a u:=.inl h
theorem Rd.ok {P:Program} {w:World} {H:Hp} {h:Heap} {a:Addr} {u:HO} (r:Rd H a u) (x:HOk P w H h):ObjOk P w H h a u:=by
 rcases r with r | ⟨o,r⟩
 ·exact x a u r
 ·obtain ⟨_,q⟩:=x a _ r
  exact q
noncomputable def Mut:Option HO->Prop
 | some (.lst _)=>True
 | some (.dK _)=>True
 | some (.dT _)=>True
 | some (.set _ _)=>True
 | some (.ins _ _ _)=>True
 | some (.ext _)=>True
 | _=>False
section
variable {P:Program} {w:World} {H:Hp} {h h':Heap} {x e:Addr} {o':HO}
theorem HOk.write (ok:HOk P w H h) (mu:Mut (H x)) (he:e=x∨H e=some (.own x)) (k:∀ b u,b≠e->h.get? b=some u->h'.get? b=some u) (heo:∃ u,h'.get? e=some u)
  (new:ObjOk P w (upd H x o') h' x o'):HOk P w (upd H x o') h':=fun b u q=>by
 have nown:∀ c y,H c=some (.own y)->c≠x:=fun c y r z=>by subst z; rw [r] at mu; exact mu
 have ntup:∀ c xs,H c=some (.tup xs)->c≠x:=fun c xs r z=>by subst z; rw [r] at mu; exact mu
 by_cases hb:b=x
 ·subst hb; rw [Xb] at q; cases q; exact new
 ·rw [Va hb] at q
  by_cases hbe:b=e
  ·have q':H b=some (.own x):=by
    rcases he with z | z
    ·exact absurd (hbe.trans z) hb
    ·rw [hbe]; exact z
   rw [q] at q'; cases q'
   obtain ⟨v,hv⟩:=heo
   exact ⟨v,by rw [hbe]; exact hv⟩
  ·refine (ok b u q).stay (fun c v hc r=>k c v ?_ r) (fun c r=>by rw [Va (nown c b r)]; exact r) fun c xs r=>by rw [Va (ntup c xs r)]; exact r
   rcases hc with rfl | hc
   ·exact hbe
   ·rintro rfl
    rcases he with z | z
    ·exact nown c b hc z
    ·rw [hc] at z; cases z; exact hb rfl
end
structure Un (fs ex:List Addr) (H H':Hp) (h h':Heap):Prop where
 keep:∀ b o,h.get? b=some o->H b=none->b ∉ fs->b ∉ ex->h'.get? b=some o
 slot:∀ b o,h.get? b=some o->H b=none->b∈fs->b ∉ ex->∃ sl,h'.get? b=some { o with slots:=sl }
 free:∀ b o,h.get? b=some o->H b=none->b ∉ ex->H' b=none
 there:∀ b o,h.get? b=some o->b ∉ ex->∃ o',h'.get? b=some o'
 tups:∀ b xs,H b=some (.tup xs)->H' b=some (.tup xs)
 frzs:∀ b o u,H b=some (.frz o u)->H' b=some (.frz o u)
 tbls:∀ b ps,H b=some (.tbl ps)->∃ more:Array Value,H' b=some (.tbl (ps ++ more))
section
variable {fs fs' ex ex':List Addr} {H H1 H2:Hp} {h h1 h2 h':Heap} {a x e:Addr} {o:HO}
theorem Un.any (u:Un fs ex H H1 h h1) {b:Addr} {ob:Obj} (q:h.get? b=some ob) (n:H b=none) (hx:b ∉ ex):∃ sl,h1.get? b=some { ob with slots:=sl }:=by
 by_cases hb:b∈fs
 ·exact u.slot b ob q n hb hx
 ·exact ⟨ob.slots,u.keep b ob q n hb hx⟩
theorem Un.trans (a:Un fs ex H H1 h h1) (b:Un fs ex H1 H2 h1 h2):Un fs ex H H2 h h2 where
 keep:=fun c ob q n hc hx=>b.keep c ob (a.keep c ob q n hc hx) (a.free c ob q n hx) hc hx
 slot:=fun c ob q n hc hx=>by
  obtain ⟨sl,e1⟩:=a.slot c ob q n hc hx
  obtain ⟨sl',e2⟩:=b.slot c _ e1 (a.free c ob q n hx) hc hx
  exact ⟨sl',e2⟩
 free:=fun c ob q n hx=>by
  obtain ⟨o',e1⟩:=a.there c ob q hx
  exact b.free c o' e1 (a.free c ob q n hx) hx
 there:=fun c ob q hx=>by
  obtain ⟨o',e1⟩:=a.there c ob q hx
  exact b.there c o' e1 hx
 tups:=fun c xs q=>b.tups c xs (a.tups c xs q)
 frzs:=fun c ob xs q=>b.frzs c ob xs (a.frzs c ob xs q)
 tbls:=fun c ps q=>by
  obtain ⟨m1,e1⟩:=a.tbls c ps q
  obtain ⟨m2,e2⟩:=b.tbls c _ e1
  exact ⟨m1 ++ m2,by rw [e2,Tab.assoc]⟩
theorem Un.kept (k:∀ b u,h.get? b=some u->h'.get? b=some u):Un fs ex H H h h' :=
 ⟨fun b ob q _ _ _=>k b ob q,fun b ob q _ _ _=>⟨ob.slots,k b ob q⟩,fun _ _ _ n _=>n,fun b ob q _=>⟨ob,k b ob q⟩,fun _ _ q=>q,fun _ _ _ q=>q,fun _ ps q=>⟨#[],by rw [q,Tab.nil]⟩⟩
theorem Un.refl:Un fs ex H H h h:=Un.kept fun _ _ q=>q
theorem Un.laid (k:∀ b u,h.get? b=some u->h'.get? b=some u) (hp:h.objs.size<=a) (hn:H a=none):Un fs ex H (upd H a o) h h' where
 keep:=fun b u q _ _ _=>k b u q
 slot:=fun b u q _ _ _=>⟨u.slots,k b u q⟩
 free:=fun b u q n _=>by rw [Va (Nat.ne_of_lt (Nat.lt_of_lt_of_le (Heap.lt_size q) hp))]; exact n
 there:=fun b u q _=>⟨u,k b u q⟩
 tups:=fun b xs q=>by rw [Va (Wb q hn)]; exact q
 frzs:=fun b u xs q=>by rw [Va (Wb q hn)]; exact q
 tbls:=fun b ps q=>⟨#[],by rw [Va (Wb q hn),q,Tab.nil]⟩
theorem Un.write (mu:Mut (H x)) (he:e=x∨H e=some (.own x)) (k:∀ b u,b≠e->h.get? b=some u->h'.get? b=some u) (heo:∃ u,h'.get? e=some u):Un fs ex H (upd H x o) h h':=by
 have hx:∀ b,H b=none->b≠x:=fun b n z=>by subst z; rw [n] at mu; exact mu
 have hb:∀ b,H b=none->b≠e:=fun b n z=>by
  subst z
  rcases he with r | r
  ·exact hx b n r
  ·rw [n] at r; cases r
 have hm:∀ b u,H b=some u->¬ Mut (some u)->b≠x:=fun b u q nm z=>by subst z; rw [q] at mu; exact nm mu
 refine ⟨fun b u q n _ _=>k b u (hb b n) q,fun b u q n _ _=>⟨u.slots,k b u (hb b n) q⟩,fun b u q n _=>by rw [Va (hx b n)]; exact n,fun b u q _=>?_,
  fun b xs q=>by rw [Va (hm b _ q fun z=>z)]; exact q,fun b u xs q=>by rw [Va (hm b _ q fun z=>z)]; exact q,fun b ps q=>⟨#[],by rw [Va (hm b _ q fun z=>z),q,Tab.nil]⟩⟩
 by_cases hbe:b=e
 ·subst hbe; exact heo
 ·exact ⟨u,k b u hbe q⟩
theorem Un.mono (u:Un fs ex H H1 h h1) (hs:∀ b∈fs,b∈fs') (hx:∀ b∈ex,b∈ex'):Un fs' ex' H H1 h h1 :=
 ⟨fun b ob q n hb he=>u.keep b ob q n (fun z=>hb (hs b z)) fun z=>he (hx b z),fun _ _ q n _ he=>u.any q n fun z=>he (hx _ z),fun b ob q n he=>u.free b ob q n fun z=>he (hx b z),fun b ob q he=>u.there b ob q fun z=>he (hx b z),u.tups,u.frzs,u.tbls⟩
end
noncomputable def trk (h:Heap) (H:Hp):List Addr:=(List.range h.objs.size).filter fun a=>(H a).isSome
noncomputable def hidT (h:Heap) (H:Hp):Heap:=PySem.W.hideAll h (trk h H)
theorem Wao (h:Heap) (H:Hp):(hidT h H).objs.size=h.objs.size:=PySem.W.hideAll_size _ _
theorem Wa5 {h:Heap} {H:Hp} {b:Addr} {o:Obj} (e:h.get? b=some o) (n:H b=none):(hidT h H).get? b=some o :=
 PySem.W.hideAll_get _ e fun hm=>by
  have q:(H b).isSome=true:=(List.mem_filter.mp hm).2
  rw [n] at q; simp at q
theorem Zbq {h:Heap} {H:Hp} {b:Addr} {o:Obj} (e:(hidT h H).get? b=some o):h.get? b=some o/\H b=none:=by
 have e':h.get? b=some o:=PySem.W.of_hideAll (trk h H) e
 refine ⟨e',?_⟩
 cases q:H b with
 | none=>rfl
 | some x =>
  have hm:b∈trk h H:=List.mem_filter.mpr ⟨List.mem_range.mpr (Heap.lt_size e'),by simp [q]⟩
  have z:(hidT h H).get? b=none:=PySem.W.hideAll_none (trk h H) hm
  rw [z] at e; cases e
noncomputable def allNews (g h:Heap) (L:Addr):List (Addr×Obj):=(List.range h.objs.size).filterMap fun a=>if a=L∨(g.get? a).isSome=true then none else (h.get? a).map fun o=>(a,o)
noncomputable def rest (g h:Heap) (L d:Addr):List (Addr×Obj):=(allNews g h L).filter fun p=>decide (p.1≠d)
end L2
namespace L2
open PySem PySem.Spec PyProof.Rows
noncomputable def HdS (A:Around) (h:Heap):Prop:=∀ v,A.handled=some v->∃ x o vs,v = .ref x/\h.get? x=some o/\o.data = .fields vs/\vs[2]? = some .none
section
variable {prog:Program} {w:World} {A:Around} {E:Value->Shared->Prop} {s:Shared}
theorem Yai:entryFor table "proto.unchain" = some Builtin.«proto.unchain»:=entryFor_of_tree (by kernel_rfl)
theorem Zb9 {α:Type} {a:Addr} {o:Obj} {vs:Array Value} {Q:α->Shared->Prop} (hh:HdS A s.heap) (ho:s.heap.get? a=some o) (hd:o.data = .fields vs) (hz:2 < vs.size)
  (hE:∀ h' o',h'.get? a=some o'->o'.cls=o.cls->Heap.SameBut a s.heap h'->E (.ref a) { s with heap:=h' }):wpAny (model prog w) A (raiseNew (.ref a)) Q E s:=by
 obtain ⟨oc,od,dt,sl⟩:=o
 cases hd
 unfold raiseNew
 refine wpAny_bind (wpAny_handled ?_)
 cases q:A.handled with
 | none=>exact wpAny_throw (hE s.heap _ ho rfl (Heap.SameBut.refl ..))
 | some v =>
  obtain ⟨x,ox,ws,rfl,hx,hxd,hx2⟩:=hh v q
  show wpAny _ _ (if (Value.ref x != Value.ref a)=true then _ else _) _ _ s
  by_cases e:(Value.ref x != Value.ref a)=true
  ·rw [if_pos e]
   refine wpAny_bind (wpAny_holding (wpAny_runValue (codeAny_builtin Yai ?_)))
   unfold Builtin.«proto.unchain»
   refine wpAny_bind (wpAny_field hx hxd hx2 ?_)
   refine wpAny_pure ?_
   show wpAny _ _ (updateField a 2 (.ref x) >>= _) _ _ s
   unfold updateField
   refine wpAny_bind (wpAny_bind (wpAny_load ho ?_))
   show wpAny _ _ (if 2 < vs.size then _ else _) _ _ s
   rw [if_pos hz]
   refine wpAny_update ho (wpAny_throw ?_)
   exact hE _ _ (Heap.get?_update_self _ ho rfl) rfl (Heap.SameBut.update ..)
  ·rw [if_neg e]
   exact wpAny_throw (hE s.heap _ ho rfl (Heap.SameBut.refl ..))
theorem Wbk {α:Type} {it:Addr} {Q:α->Shared->Prop} (hh:HdS A s.heap) (k:∀ h' a o,h'.get? a=some o->o.cls = .type "StopIteration"->Heap.ExtBut it s.heap h'->E (.ref a) { s with heap:=h' }) :
  wpAny (model prog w) A (do let e <- newExc (.type "StopIteration") []; raiseNew e) Q E s:=by
 refine wpAny_bind ?_
 simp only [newExc,newTuple]
 refine wpAny_bind (wpAny_newObj_type (wpAny_bind (m:=firstArgMember _ _) (wpAny_of_eq (a:=Value.none) (by first | rfl | (simp only [firstArgMember]; rfl)) (wpAny_newObj_type ?_ (by size_fits)))) (by size_fits))
 refine Zb9 (vs:=#[.ref s.heap.objs.size,.none,.none,.none,.bool false,.none] ++ ownMembersOf (.type "StopIteration") []) (fun v q=>?_) (Heap.get?_push_size _ rfl) rfl (by simp [ownMembersOf]) fun h' o' e1 e2 sb=>k _ _ _ e1 e2 fun b o hb e=>?_
 ·obtain ⟨x,o,vs,e,h1,h2,h3⟩:=hh v q
  exact ⟨x,o,vs,e,Heap.get?_push_of_some _ (Heap.get?_push_of_some _ h1),h2,h3⟩
 ·refine (sb.2 b ?_).trans (Heap.get?_push_of_some _ (Heap.get?_push_of_some _ e))
  have h2:(s.heap.push { cls:=.type "tuple",data:=.seq #[] }).objs.size=s.heap.objs.size + 1:=by simp [Heap.push]
  have h3:s.heap.objs.size<=(s.heap.push { cls:=.type "tuple",data:=.seq #[] }).objs.size:=by omega
  rintro rfl
  exact absurd (Nat.lt_of_lt_of_le (Heap.lt_size e) h3) (Nat.lt_irrefl _)
theorem Vba {it:Addr} {x left c:Int} {Q:Option Value->Shared->Prop} (hh:HdS A s.heap) (hI:IsRangeIter s.heap it x left c) (z:left<=0) (k:∀ h',Heap.ExtBut it s.heap h'->Q none { s with heap:=h' }):wpAny (model prog w) A (pyNext (.ref it)) Q E s:=by
 have ty:s.TypeIs (.ref it) "range_iterator":=⟨_,hI,rfl⟩
 unfold pyNext
 refine wpAny_bind (wpAny_attempt (wpAny_callSpecial?_slot (name:=Str.ofString "__next__") ty F.slot_range_iterator_next (wpAny_call_entry F.slot_range_iterator_next ty F.entry_range_iterator_next ?_ (F.args_range_iterator_next_1 _))))
 refine (show wpAny _ _ (do let a <- field (.ref it) 0; _) _ _ s from wpAny_bind (wpAny_field hI rfl (x:=rawInt x) rfl ?_))
 refine (show wpAny _ _ (do let a <- field (.ref it) 1; _) _ _ s from wpAny_bind (wpAny_field hI rfl (x:=rawInt left) rfl ?_))
 refine (show wpAny _ _ (do let a <- field (.ref it) 2; _) _ _ s from wpAny_bind (wpAny_field hI rfl (x:=rawInt c) rfl ?_))
 show wpAny _ _ (ite (left<=0) _ _) _ _ s
 rw [if_pos z]
 refine wpAny_bind (wpAny_rule (wpAny_bind (Wbk (it:=it) hh fun h' a o e1 e2 eb=>?_)))
 exact wpAny_bind (wpAny_isInstance (T:="StopIteration") (b:=true) ⟨_,e1,e2⟩ isSubtype_stop (wpAny_pure (k _ eb)))
end
end L2
namespace L2
open PySem PySem.Spec PyProof.Rows
structure Mod (K:PySem.W.Frag) (mg:Str->Option Value) (base:Heap):Prop where
 kin:K.In base
 glob:base.Ns mainGlobals mg
 blt:∃ mb,base.Ns builtinsNs mb/\∀ x:Str,x≠"__name__"->mb x=bootBuiltins x
 nolimit:base.NoLimit
 sysm:∃ mm,base.Ns sysModules mm
noncomputable def HdOk (A:Around) (H:Hp):Prop:=∀ v,A.handled=some v->∃ x o u vs,v = .ref x/\H x=some (.frz o u)/\o.data = .fields vs/\vs[2]? = some .none
theorem HdOk.mono {A:Around} {H H':Hp} (x:HdOk A H) (f:∀ b o u,H b=some (.frz o u)->H' b=some (.frz o u)):HdOk A H':=fun v q =>
 let ⟨x,o,u,vs,e,h,r⟩:=x v q; ⟨x,o,u,vs,e,f _ _ _ h,r⟩
theorem HdOk.hds {P:Program} {w:World} {A:Around} {H:Hp} {h:Heap} (x:HdOk A H) (k:HOk P w H h):HdS A h:=fun v q =>
 let ⟨x,o,u,vs,e,y,r⟩:=x v q; ⟨x,o,vs,e,(show ObjOk P w H h x (.frz o u) from k _ _ y).1,r⟩
structure Cx where
 prog:Program
 w:World
 K:PySem.W.Frag
 mg:Str->Option Value
 base:Heap
 A:Around
 N:List Str
 s₀:Shared
 H₀:Hp
 env:Env
 outer:List Env
 stack:List Env
 ex:List Addr
 fn:Str->Bool
 calm:Bool
 pn:List (Addr×Obj)
 xe:Value->Shared->Prop
noncomputable def frs (l:List Env):List Addr:=l.filterMap (·.frame)
noncomputable abbrev Cx.fs (X:Cx):List Addr:=frs X.outer
noncomputable def Vis (sc:Scope) (x:Str):Prop:=sc.names.lookup x=some .local∨sc.names.lookup x=some .cell∨sc.names.lookup x=some .free
noncomputable def Loc (sc:Scope) (x:Str):Prop:=sc.names.lookup x=some .local∨sc.names.lookup x=some .cell
noncomputable def Look (env:Env) (h:Heap) (m:Str->Option Value) (x:Str) (u:Value):Prop :=
 (env.kindOf x=some .local/\m x=some u)∨((env.kindOf x=some .cell∨env.kindOf x=some .free)/\∃ c,env.cells.lookup x=some c/\h.IsCell c (some u))
structure Cx.Ok (X:Cx):Prop where
 mod:Mod X.K X.mg X.base
 kind:X.env.scope.kind = .function
 glob:X.env.globals=mainGlobals
 blt:X.env.builtins=builtinsNs
 above:X.s₀.heap.objs.size<=X.env.locals
 inj:∀ x y c,X.env.cells.lookup x=some c->X.env.cells.lookup y=some c->x=y
 has:∀ x,(X.env.kindOf x=some .cell∨X.env.kindOf x=some .free)->∃ c,X.env.cells.lookup x=some c
 cab:∀ x c,X.fn x=true->X.env.cells.lookup x=some c->X.s₀.heap.objs.size<=c
 hd:X.calm=true->X.A.handled=none
 frames:X.A.frames=some X.stack
 stk:X.stack=X.outer∨(X.stack=X.env :: X.outer/\X.env.frame=some X.env.locals)
 exf:∀ b∈X.ex,b≠X.env.locals/\∀ x c,X.env.cells.lookup x=some c->c≠b
 bs:∀ b o,X.base.get? b=some o->X.s₀.heap.get? b=some o/\X.H₀ b=none
 bsz:X.base.objs.size<=X.s₀.heap.objs.size
 noex:∀ b o,X.base.get? b=some o->b ∉ X.ex
 exfs:∀ b∈X.ex,b ∉ X.fs
 funs:X.s₀.heap.FunFrames X.base X.outer
 frf:∀ b∈X.fs,X.H₀ b=none
structure Inv (X:Cx) (pins:List (Addr×Obj)) (σ:List (Option V)) (H:Hp) (s:Shared):Prop where
 ok:X.Ok
 os:s.os=X.s₀.os
 bare:AllBare s.gens
 base:Un X.fs X.ex X.H₀ H X.s₀.heap s.heap
 loc:∃ m,s.heap.Ns X.env.locals m/\∀ (i:Nat) (x:Str) (v:V),X.N[i]? = some x->σ[i]? = some (some v)->Vis X.env.scope x->∃ u,RelV v u/\Look X.env s.heap m x u
 cell:∀ x c,X.env.cells.lookup x=some c->∃ v,s.heap.IsCell c v
 free:H X.env.locals=none
 freeC:∀ x c,X.env.cells.lookup x=some c->H c=none
 pin:∀ p∈X.pn ++ pins,s.heap.get? p.1=some p.2/\H p.1=none/\p.1≠X.env.locals/\p.1 ∉ X.fs/\∀ v,p.2.data≠.cell v
 hok:HOk X.prog X.w H s.heap
 len:σ.length=X.N.length
 hh:HdOk X.A H
section
variable {X:Cx} {pins:List (Addr×Obj)} {σ:List (Option V)} {H H':Hp} {s:Shared} {h':Heap}
theorem Cx.Ok.nofr (ok:X.Ok) {b:Addr} {o:Obj} (e:X.base.get? b=some o):b ∉ X.fs:=fun hb=>by
 have:=(ok.funs.mem hb).1
 rw [e] at this; cases this
theorem Inv.bs (I:Inv X pins σ H s):∀ b o,X.base.get? b=some o->s.heap.get? b=some o/\H b=none:=fun b o e =>
 ⟨I.base.keep b o (I.ok.bs b o e).1 (I.ok.bs b o e).2 (I.ok.nofr e) (I.ok.noex b o e),I.base.free b o (I.ok.bs b o e).1 (I.ok.bs b o e).2 (I.ok.noex b o e)⟩
theorem Inv.bk (I:Inv X pins σ H s):∀ b o,X.base.get? b=some o->s.heap.get? b=some o:=fun b o e=>(I.bs b o e).1
theorem Inv.mod (I:Inv X pins σ H s):Mod X.K X.mg X.base:=I.ok.mod
theorem Inv.kIn (I:Inv X pins σ H s):X.K.In s.heap:=I.ok.mod.kin.keeps I.bk
theorem Inv.nolimit (I:Inv X pins σ H s):s.heap.NoLimit:=I.ok.mod.nolimit.keeps I.bk
theorem Inv.fr (I:Inv X pins σ H s):∃ m,Fr X.base X.env.locals s.heap m :=
 let ⟨m,hn,_⟩:=I.loc
 ⟨m,hn,I.bk,Nat.le_trans I.ok.bsz I.ok.above⟩
theorem Inv.lt (I:Inv X pins σ H s):X.env.locals < s.heap.objs.size:=let ⟨_,hn,_⟩:=I.loc; hn.lt
theorem Inv.sz (I:Inv X pins σ H s):X.s₀.heap.objs.size<=s.heap.objs.size:=Nat.le_trans I.ok.above (Nat.le_of_lt I.lt)
theorem Inv.nofs (I:Inv X pins σ H s) {a:Addr} (h:s.heap.objs.size<=a):a ∉ X.fs:=fun hb=>by
 obtain ⟨_,o,ho,_⟩:=I.ok.funs.mem hb
 exact absurd (Nat.lt_of_lt_of_le (Heap.lt_size ho) (Nat.le_trans I.sz h)) (Nat.lt_irrefl _)
theorem Inv.cne (I:Inv X pins σ H s):∀ x c,X.env.cells.lookup x=some c->c≠X.env.locals:=fun x c e z=>by
 obtain ⟨v,o,ho,hd⟩:=I.cell x c e
 obtain ⟨m,⟨o',es,ep,ho',hd',_⟩,_⟩:=I.loc
 rw [z,ho'] at ho; cases ho; rw [hd'] at hd; cases hd
theorem Inv.funs (I:Inv X pins σ H s):s.heap.FunFrames X.base X.outer:=by
 have all:∀ (l:List Env),(∀ b∈frs l,b∈X.fs)->X.s₀.heap.FunFrames X.base l->s.heap.FunFrames X.base l:=by
  intro l
  induction l with
  | nil=>intro _ _; trivial
  | cons env r ih =>
   intro hs hl
   obtain ⟨hk,⟨L,o,hf,hn,ho,hd⟩,hr⟩:=hl
   have hL:L∈X.fs:=hs L (by unfold frs; rw [List.filterMap_cons,hf]; exact List.mem_cons_self)
   obtain ⟨sl,e⟩:=I.base.slot L o ho (I.ok.frf L hL) hL fun z=>I.ok.exfs L z hL
   exact ⟨hk,⟨L,_,hf,hn,e,hd⟩,ih (fun b hb=>hs b (by unfold frs; rw [List.filterMap_cons,hf]; exact List.mem_cons_of_mem _ hb)) hr⟩
 exact all X.outer (fun _ hb=>hb) I.ok.funs
theorem Inv.stack (I:Inv X pins σ H s):s.heap.FunFrames X.base X.stack:=by
 rcases I.ok.stk with e | ⟨e,hf⟩
 ·rw [e]; exact I.funs
 ·rw [e]
  obtain ⟨m,hn,_⟩:=I.loc
  refine .cons (by rw [I.ok.kind]; decide) hf hn ?_ I.funs
  exact Heap.get?_none_of_le (Nat.le_trans I.ok.bsz I.ok.above)
theorem Inv.stkSub (I:Inv X pins σ H s):∀ b∈frs X.stack,b∈X.env.locals :: X.fs:=fun b hb=>by
 rcases I.ok.stk with e | ⟨e,hf⟩
 ·rw [e] at hb; exact List.mem_cons_of_mem _ hb
 ·rw [e] at hb
  unfold frs at hb
  rw [List.filterMap_cons,hf] at hb
  exact hb
theorem Inv.stkFree (I:Inv X pins σ H s):∀ b∈frs X.stack,H b=none:=fun b hb=>by
 rcases List.mem_cons.mp (I.stkSub b hb) with e | hb
 ·rw [e]; exact I.free
 ·obtain ⟨_,o,ho,_⟩:=I.ok.funs.mem hb
  exact I.base.free b o ho (I.ok.frf b hb) fun z=>I.ok.exfs b z hb
theorem Inv.step {g':Array GenState} {t':Nat} {d':Drawn} {ch:List Addr} (I:Inv X pins σ H s)
  (hch:∀ b∈ch,(b∈X.ex∨X.s₀.heap.objs.size<=b)/\b≠X.env.locals/\(∀ x c,X.env.cells.lookup x=some c->c≠b)/\∀ p∈X.pn ++ pins,p.1≠b)
  (keep:∀ b o,b≠X.env.locals->b ∉ X.fs->b ∉ ch->s.heap.get? b=some o->H b=none->h'.get? b=some o)
  (slot:∀ b o,b≠X.env.locals->b∈X.fs->b ∉ ch->s.heap.get? b=some o->H b=none->∃ sl,h'.get? b=some { o with slots:=sl }) (free:∀ b o,b ∉ ch->s.heap.get? b=some o->H b=none->H' b=none)
  (there:∀ b o,b ∉ ch->s.heap.get? b=some o->∃ o',h'.get? b=some o')
  (tups:∀ b xs,H b=some (.tup xs)->H' b=some (.tup xs)) (frzs:∀ b o u,H b=some (.frz o u)->H' b=some (.frz o u)) (tbls:∀ b ps,H b=some (.tbl ps)->∃ more:Array Value,H' b=some (.tbl (ps ++ more)))
  (ns:∀ m,s.heap.Ns X.env.locals m->h'.Ns X.env.locals m) (hok:HOk X.prog X.w H' h') (hg:AllBare g') :
  Inv X pins σ H' { s with heap:=h',gens:=g',drawn:=d',toks:=t' }:=by
 have neL:∀ b o,X.s₀.heap.get? b=some o->b≠X.env.locals:=fun b o e=>Nat.ne_of_lt (Nat.lt_of_lt_of_le (Heap.lt_size e) I.ok.above)
 have neC:∀ b o,X.s₀.heap.get? b=some o->b ∉ X.ex->b ∉ ch:=fun b o e hx hb=>by
  rcases (hch b hb).1 with z | z
  ·exact hx z
  ·exact absurd (Nat.lt_of_lt_of_le (Heap.lt_size e) z) (Nat.lt_irrefl _)
 have cellK:∀ x c,X.env.cells.lookup x=some c->∀ v,s.heap.IsCell c v->h'.IsCell c v:=fun x c e v ⟨o,ho,hd⟩=>by
  have nch:c ∉ ch:=fun z=>(hch c z).2.2.1 x c e rfl
  by_cases hc:c∈X.fs
  ·obtain ⟨sl,q⟩:=slot c o (I.cne x c e) hc nch ho (I.freeC x c e)
   exact ⟨_,q,hd⟩
  ·exact ⟨o,keep c o (I.cne x c e) hc nch ho (I.freeC x c e),hd⟩
 refine ⟨I.ok,I.os,hg,⟨fun b o e n hb hx=>?_,fun b o e n hb hx=>?_,fun b o e n hx=>?_,fun b o e hx=>?_,fun b xs e=>tups b xs (I.base.tups b xs e),fun b o xs e=>frzs b o xs (I.base.frzs b o xs e),fun b ps e=>?_⟩,?_,fun x c e=>?_,?_,fun x c e=>?_,fun p hp=>?_,hok,I.len,I.hh.mono frzs⟩
 ·exact keep b o (neL b o e) hb (neC b o e hx) (I.base.keep b o e n hb hx) (I.base.free b o e n hx)
 ·obtain ⟨sl,e1⟩:=I.base.slot b o e n hb hx
  obtain ⟨sl',e2⟩:=slot b _ (neL b o e) hb (neC b o e hx) e1 (I.base.free b o e n hx)
  exact ⟨sl',e2⟩
 ·obtain ⟨o',e1⟩:=I.base.there b o e hx
  exact free b o' (neC b o e hx) e1 (I.base.free b o e n hx)
 ·obtain ⟨o',e1⟩:=I.base.there b o e hx
  exact there b o' (neC b o e hx) e1
 ·obtain ⟨m1,e1⟩:=I.base.tbls b ps e
  obtain ⟨m2,e2⟩:=tbls b _ e1
  exact ⟨m1 ++ m2,by rw [e2,Tab.assoc]⟩
 ·obtain ⟨m,hn,hl⟩:=I.loc
  refine ⟨m,ns m hn,fun i x v e1 e2 e3=>?_⟩
  obtain ⟨u,r,l⟩:=hl i x v e1 e2 e3
  refine ⟨u,r,?_⟩
  rcases l with l | ⟨k,c,e,z⟩
  ·exact .inl l
  ·exact .inr ⟨k,c,e,cellK x c e _ z⟩
 ·obtain ⟨v,z⟩:=I.cell x c e
  exact ⟨v,cellK x c e v z⟩
 ·obtain ⟨m,⟨o,_,_,ho,_⟩,_⟩:=I.loc
  exact free _ o (fun z=>(hch _ z).2.1 rfl) ho I.free
 ·obtain ⟨v,o,ho,hd⟩:=I.cell x c e
  exact free c o (fun z=>(hch c z).2.2.1 x c e rfl) ho (I.freeC x c e)
 ·obtain ⟨e,n,ne,nf,d⟩:=I.pin p hp
  have nch:p.1 ∉ ch:=fun z=>(hch p.1 z).2.2.2 p hp rfl
  exact ⟨keep p.1 p.2 ne nf nch e n,free p.1 p.2 nch e n,ne,nf,d⟩
theorem Inv.un {t':Nat} (I:Inv X pins σ H s) (u:Un X.fs [] H H' s.heap h') (hok:HOk X.prog X.w H' h'):Inv X pins σ H' { s with heap:=h',toks:=t' }:=by
 obtain ⟨m,⟨o,es,ep,ho,r⟩,_⟩:=id I.loc
 obtain ⟨sl,hL⟩:=u.any ho I.free (by simp)
 exact I.step (g':=s.gens) (d':=s.drawn) (ch:=[]) (fun _ z=>nomatch z) (fun b o _ hb _ e n=>u.keep b o e n hb (by simp)) (fun b o _ hb _ e n=>u.slot b o e n hb (by simp)) (fun b o _ e n=>u.free b o e n (by simp)) (fun b o _ e=>u.there b o e (by simp)) u.tups u.frzs u.tbls (fun m' hm=>by
  obtain ⟨o',es',ep',ho',r'⟩:=hm
  rw [ho] at ho'; cases ho'
  exact ⟨_,es',ep',hL,r'⟩) hok I.bare
theorem Inv.call {g':Array GenState} {t':Nat} {d':Drawn} {ch:List Addr} (I:Inv X pins σ H s) (u:Un (frs X.stack) ch H H' s.heap h') (hok:HOk X.prog X.w H' h') (hg:AllBare g')
  (hch:∀ b∈ch,(b∈X.ex∨X.s₀.heap.objs.size<=b)/\b≠X.env.locals/\(∀ x c,X.env.cells.lookup x=some c->c≠b)/\∀ p∈X.pn ++ pins,p.1≠b) :
  Inv X pins σ H' { s with heap:=h',gens:=g',drawn:=d',toks:=t' }:=by
 obtain ⟨m,⟨o,es,ep,ho,r⟩,_⟩:=id I.loc
 obtain ⟨sl,hL⟩:=u.any ho I.free fun z=>(hch _ z).2.1 rfl
 exact I.step (ch:=ch) hch (fun b o hL hb hc e n=>u.keep b o e n (fun z=>(List.mem_cons.mp (I.stkSub b z)).elim hL hb) hc) (fun b o _ _ hc e n=>u.any e n hc) (fun b o hc e n=>u.free b o e n hc) (fun b o hc e=>u.there b o e hc) u.tups u.frzs u.tbls (fun m' hm=>by
  obtain ⟨o',es',ep',ho',r'⟩:=hm
  rw [ho] at ho'; cases ho'
  exact ⟨_,es',ep',hL,r'⟩) hok hg
theorem Inv.turned {t':Nat} {it:Addr} (I:Inv X pins σ H s) (k:∀ b o,b≠it->s.heap.get? b=some o->h'.get? b=some o) (hn:H it=none) (hL:it≠X.env.locals)
  (h1:it∈X.ex∨X.s₀.heap.objs.size<=it) (h2:∀ x c,X.env.cells.lookup x=some c->c≠it) (h3:∀ p∈X.pn ++ pins,p.1≠it):Inv X pins σ H { s with heap:=h',toks:=t' }:=by
 have nit:∀ b u,H b=some u->b≠it:=fun b u e z=>by rw [z,hn] at e; cases e
 refine I.step (g':=s.gens) (d':=s.drawn) (ch:=[it]) (fun b hb=>?_) (fun b o _ _ hc e _=>k b o (fun z=>hc (by simp [z])) e) (fun b o _ _ hc e _=>⟨o.slots,k b o (fun z=>hc (by simp [z])) e⟩) (fun _ _ _ _ n=>n)
  (fun b o hc e=>⟨o,k b o (fun z=>hc (by simp [z])) e⟩) (fun _ _ e=>e) (fun _ _ _ e=>e) (fun b ps e=>⟨#[],by rw [e,Tab.nil]⟩) (fun m hm=>?_) (fun b u e=>?_) I.bare
 ·have e:b=it:=by simpa using hb
  subst e
  exact ⟨h1,hL,h2,h3⟩
 ·obtain ⟨o,es,ep,ho,r⟩:=hm
  exact ⟨o,es,ep,k _ o (Ne.symm hL) ho,r⟩
 ·refine (I.hok b u e).stay (fun c v hc q=>k c v ?_ q) (fun _ q=>q) fun _ _ q=>q
  rcases hc with z | z
  ·rw [z]; exact nit b u e
  ·exact nit c _ z
theorem Inv.tok (I:Inv X pins σ H s) (t:Nat):Inv X pins σ H { s with toks:=t }:=I.un (h':=s.heap) (t':=t) Un.refl I.hok
theorem Inv.kept {t':Nat} (I:Inv X pins σ H s) (k:∀ b u,s.heap.get? b=some u->h'.get? b=some u):Inv X pins σ H { s with heap:=h',toks:=t' }:=I.un (Un.kept k) (I.hok.kept k)
theorem Inv.laid {a:Addr} {o:HO} {t':Nat} (I:Inv X pins σ H s) (k:∀ b u,s.heap.get? b=some u->h'.get? b=some u) (hp:s.heap.objs.size<=a) (new:ObjOk X.prog X.w (upd H a o) h' a o) :
  Inv X pins σ (upd H a o) { s with heap:=h',toks:=t' }:=I.un (Un.laid k hp (I.hok.fresh hp)) (I.hok.laid k hp new)
theorem Inv.write {x e:Addr} {o:HO} {t':Nat} (I:Inv X pins σ H s) (mu:Mut (H x)) (he:e=x∨H e=some (.own x)) (k:∀ b u,b≠e->s.heap.get? b=some u->h'.get? b=some u) (heo:∃ u,h'.get? e=some u)
  (new:ObjOk X.prog X.w (upd H x o) h' x o):Inv X pins σ (upd H x o) { s with heap:=h',toks:=t' }:=I.un (Un.write mu he k heo) (I.hok.write mu he k heo new)
theorem Inv.pins_of {pins':List (Addr×Obj)} (I:Inv X pins σ H s) (h:∀ p∈pins',s.heap.get? p.1=some p.2/\H p.1=none/\p.1≠X.env.locals/\p.1 ∉ X.fs/\∀ v,p.2.data≠.cell v):Inv X pins' σ H s :=
 ⟨I.ok,I.os,I.bare,I.base,I.loc,I.cell,I.free,I.freeC,fun p hp=>(List.mem_append.mp hp).elim (fun z=>I.pin p (List.mem_append_left _ z)) (h p),I.hok,I.len,I.hh⟩
theorem Va3 {N:List Str} (hN:N.Nodup) {i j:Nat} {x:Str} (a:N[i]? = some x) (b:N[j]? = some x):i=j:=by
 obtain ⟨h1,e1⟩:=List.getElem?_eq_some_iff.mp a
 obtain ⟨h2,e2⟩:=List.getElem?_eq_some_iff.mp b
 exact (List.getElem_inj hN).mp (e1.trans e2.symm)
theorem Yal {M:Model} {A:Around} {E:Value->Shared->Prop} {i:Nat} {x:Str} {v:V} {u:Value} {Q:Unit->Shared->Prop} (I:Inv X pins σ H s) (hN:X.N.Nodup) (hi:X.N[i]? = some x) (hx:Loc X.env.scope x) (r:RelV v u)
  (h:∀ s',Inv X pins (σ.set i (some v)) H s'->(∃ a,Heap.SameBut a s.heap s'.heap/\(a=X.env.locals∨X.env.cells.lookup x=some a))->Q () s') (hf:X.fn x=true∨X.env.scope.names.lookup x=some .local:=by first | exact .inl rfl | exact .inr rfl | assumption):wpAny M A (storeName X.env x u) Q E s:=by
 obtain ⟨m,hn,hl⟩:=id I.loc
 have hcls:(X.env.scope.kind == .class || (X.env.scope.kind == .module && X.env.locals != X.env.globals))=false:=by rw [I.ok.kind]; rfl
 have hiσ:i < σ.length:=by rw [I.len]; exact (List.getElem?_eq_some_iff.mp hi).1
 have cne:=I.cne
 have tracked:∀ {a:Addr} {h':Heap},(∃ o,s.heap.get? a=some o/\H a=none)->Heap.SameBut a s.heap h'->HOk X.prog X.w H h':=fun {a h'} ha hs b ob e=>by
  obtain ⟨_,_,hfree⟩:=ha
  refine (I.hok b ob e).stay (fun c w' hc q=>(hs.2 c ?_).trans q) (fun _ q=>q) fun _ _ q=>q
  rintro rfl
  rcases hc with rfl | hc
  ·rw [hfree] at e; cases e
  ·rw [hfree] at hc; cases hc
 rcases hx with hk | hk
 ·refine wpAny_storeName_local hk hn (fun h' hn' hs=>?_) hcls
  obtain ⟨oL,_,_,hoL,_⟩:=id hn
  refine h _ ⟨I.ok,I.os,I.bare,⟨fun b o e n hb hx=>?_,fun b o e n hb hx=>?_,I.base.free,fun b o e hx=>?_,I.base.tups,I.base.frzs,I.base.tbls⟩,⟨_,hn',fun j y v' e1 e2 e3=>?_⟩,fun y c e=>?_,I.free,I.freeC,fun p hp=>?_,tracked ⟨oL,hoL,I.free⟩ hs,by simpa using I.len,I.hh⟩ ⟨_,hs,.inl rfl⟩
  ·exact (hs.2 b (Nat.ne_of_lt (Nat.lt_of_lt_of_le (Heap.lt_size e) I.ok.above))).trans (I.base.keep b o e n hb hx)
  ·obtain ⟨sl,e1⟩:=I.base.slot b o e n hb hx
   exact ⟨sl,(hs.2 b (Nat.ne_of_lt (Nat.lt_of_lt_of_le (Heap.lt_size e) I.ok.above))).trans e1⟩
  ·obtain ⟨o',e1⟩:=I.base.there b o e hx
   exact ⟨o',(hs.2 b (Nat.ne_of_lt (Nat.lt_of_lt_of_le (Heap.lt_size e) I.ok.above))).trans e1⟩
  ·by_cases hj:j=i
   ·subst hj
    rw [hi] at e1; cases e1
    rw [List.getElem?_set_self hiσ] at e2
    cases e2
    exact ⟨u,r,.inl ⟨hk,by simp⟩⟩
   ·rw [List.getElem?_set_ne (Ne.symm hj)] at e2
    obtain ⟨u',r',q⟩:=hl j y v' e1 e2 e3
    refine ⟨u',r',?_⟩
    rcases q with ⟨k,e⟩ | ⟨k,c,e,z⟩
    ·refine .inl ⟨k,?_⟩
     have:y≠x:=fun e=>hj (Va3 hN e1 (e ▸ hi))
     simp [this,e]
    ·exact .inr ⟨k,c,e,z.sameBut hs (cne y c e)⟩
  ·obtain ⟨w',z⟩:=I.cell y c e
   exact ⟨w',z.sameBut hs (cne y c e)⟩
  ·obtain ⟨e,n,ne,nf,d⟩:=I.pin p hp
   exact ⟨(hs.2 p.1 ne).trans e,n,ne,nf,d⟩
 ·have hfn:X.fn x=true:=by
   rcases hf with z | z
   ·exact z
   ·rw [z] at hk; cases hk
  obtain ⟨c,hc⟩:=I.ok.has x (.inl hk)
  obtain ⟨w',z⟩:=I.cell x c hc
  refine wpAny_storeName_cell I.ok.kind hk hc z (fun h' hc' hs=>?_)
  obtain ⟨oc,hoc,hocd⟩:=id z
  refine h { s with heap:=h' } ⟨I.ok,I.os,I.bare,⟨fun b o e n hb hx=>?_,fun b o e n hb hx=>?_,I.base.free,fun b o e hx=>?_,I.base.tups,I.base.frzs,I.base.tbls⟩,⟨m,hn.sameBut hs (Ne.symm (cne x c hc)),fun j y v' e1 e2 e3=>?_⟩,fun y c' e=>?_,I.free,I.freeC,fun p hp=>?_,tracked ⟨oc,hoc,I.freeC x c hc⟩ hs,by simpa using I.len,I.hh⟩ ⟨c,hs,.inr hc⟩
  ·exact (hs.2 b (Nat.ne_of_lt (Nat.lt_of_lt_of_le (Heap.lt_size e) (I.ok.cab x c hfn hc)))).trans (I.base.keep b o e n hb hx)
  ·obtain ⟨sl,e1⟩:=I.base.slot b o e n hb hx
   exact ⟨sl,(hs.2 b (Nat.ne_of_lt (Nat.lt_of_lt_of_le (Heap.lt_size e) (I.ok.cab x c hfn hc)))).trans e1⟩
  ·obtain ⟨o',e1⟩:=I.base.there b o e hx
   exact ⟨o',(hs.2 b (Nat.ne_of_lt (Nat.lt_of_lt_of_le (Heap.lt_size e) (I.ok.cab x c hfn hc)))).trans e1⟩
  ·by_cases hj:j=i
   ·subst hj
    rw [hi] at e1; cases e1
    rw [List.getElem?_set_self hiσ] at e2
    cases e2
    exact ⟨u,r,.inr ⟨.inl hk,c,hc,hc'⟩⟩
   ·rw [List.getElem?_set_ne (Ne.symm hj)] at e2
    obtain ⟨u',r',q⟩:=hl j y v' e1 e2 e3
    refine ⟨u',r',?_⟩
    rcases q with q | ⟨k,c',e,z'⟩
    ·exact .inl q
    ·refine .inr ⟨k,c',e,z'.sameBut hs ?_⟩
     rintro rfl
     exact hj (Va3 hN e1 (I.ok.inj _ _ _ e hc ▸ hi))
  ·by_cases hcc:c'=c
   ·subst hcc; exact ⟨_,hc'⟩
   ·obtain ⟨w2,z2⟩:=I.cell y c' e
    exact ⟨w2,z2.sameBut hs hcc⟩
  ·obtain ⟨e,n,ne,nf,d⟩:=I.pin p hp
   refine ⟨(hs.2 p.1 ?_).trans e,n,ne,nf,d⟩
   intro q
   rw [q,hoc] at e
   have q':oc=p.2:=Option.some.inj e
   exact d w' (by rw [<- q']; exact hocd)
theorem Zag {M:Model} {A:Around} {E:Value->Shared->Prop} {i:Nat} {x:Str} {v:V} {u:Value} {Q:Unit->Shared->Prop} (I:Inv X pins σ H s) (hN:X.N.Nodup) (hi:X.N[i]? = some x) (hx:Loc X.env.scope x) (r:RelV v u)
  (h:∀ s',Inv X pins (σ.set i (some v)) H s'->Q () s') (hf:X.fn x=true∨X.env.scope.names.lookup x=some .local:=by first | exact .inl rfl | exact .inr rfl | assumption):wpAny M A (storeName X.env x u) Q E s :=
 Yal I hN hi hx r (fun s' I' _=>h s' I') hf
theorem Inv.call' {s':Shared} {ch:List Addr} (I:Inv X pins σ H s) (ho:s'.os=s.os) (u:Un (frs X.stack) ch H H' s.heap s'.heap) (hok:HOk X.prog X.w H' s'.heap) (hg:AllBare s'.gens)
  (hch:∀ b∈ch,(b∈X.ex∨X.s₀.heap.objs.size<=b)/\b≠X.env.locals/\(∀ x c,X.env.cells.lookup x=some c->c≠b)/\∀ p∈X.pn ++ pins,p.1≠b):Inv X pins σ H' s':=by
 obtain ⟨h',g',d',t',o'⟩:=s'
 have e:o'=s.os:=ho
 subst e
 exact I.call (g':=g') (t':=t') (d':=d') u hok hg hch
end
noncomputable abbrev XK:=Value->Option Addr->Hp->Prop
noncomputable abbrev St:=List (Option V)
noncomputable abbrev VK:=V->Hp->Prop
noncomputable abbrev TE:=St->Hp->VK->Prop
noncomputable abbrev TT:=St->Hp->(Bool->Hp->Prop)->Prop
noncomputable abbrev TA:=St->Hp->(List V->Hp->Prop)->Prop
structure Ends where
 nx:St->Hp->Prop
 rt:VK
 bk:St->Hp->Prop:=fun _ _=>False
 ct:St->Hp->Prop:=fun _ _=>False
noncomputable abbrev TS:=Ends->St->Hp->Prop
noncomputable def EP (X:Cx) (pins:List (Addr×Obj)) (σ:St) (Q:VK) (u:Value) (s':Shared):Prop:=∃ v H',Inv X pins σ H' s'/\RelV v u/\Q v H'
noncomputable def TP (X:Cx) (pins:List (Addr×Obj)) (σ:St) (Q:Bool->Hp->Prop) (b:Bool) (s':Shared):Prop:=∃ H',Inv X pins σ H' s'/\Q b H'
noncomputable def AP (X:Cx) (pins:List (Addr×Obj)) (σ:St) (Q:List V->Hp->Prop) (us:List Value) (s':Shared):Prop:=∃ vs H',Inv X pins σ H' s'/\Vals vs us/\Q vs H'
noncomputable def SP (X:Cx) (pins:List (Addr×Obj)) (D:Ends) (f:Flow) (s':Shared):Prop :=
 match f with
 | .next=>∃ σ' H',Inv X pins σ' H' s'/\D.nx σ' H'
 | .brk=>∃ σ' H',Inv X pins σ' H' s'/\D.bk σ' H'
 | .cont=>∃ σ' H',Inv X pins σ' H' s'/\D.ct σ' H'
 | .ret u=>∃ v σ' H',Inv X pins σ' H' s'/\RelV v u/\D.rt v H'
noncomputable def PE (X:Cx) (e:Expr) (t:TE):Prop :=
 ∀ (pins:List (Addr×Obj)) (s:Shared) (σ:St) (H:Hp) (Q:VK),Inv X pins σ H s->t σ H Q->wpAny (model X.prog X.w) X.A (eval e X.env) (EP X pins σ Q) X.xe s
noncomputable def PT (X:Cx) (e:Expr) (t:TT):Prop :=
 ∀ (pins:List (Addr×Obj)) (s:Shared) (σ:St) (H:Hp) (Q:Bool->Hp->Prop),Inv X pins σ H s->t σ H Q->wpAny (model X.prog X.w) X.A (isTrue e X.env (eval e X.env)) (TP X pins σ Q) X.xe s
noncomputable def PW (X:Cx) (e:Expr) (t:TT):Prop :=
 ∀ (whole:Sem Value) (pins:List (Addr×Obj)) (s:Shared) (σ:St) (H:Hp) (Q:Bool->Hp->Prop),Inv X pins σ H s->t σ H Q->wpAny (model X.prog X.w) X.A (isTrue e X.env whole) (TP X pins σ Q) X.xe s
theorem PW.pt {X:Cx} {e:Expr} {t:TT} (h:PW X e t):PT X e t:=h _
noncomputable def PA (X:Cx) (es:List Expr) (t:TA):Prop :=
 ∀ (pos:Pos) (pins:List (Addr×Obj)) (s:Shared) (σ:St) (H:Hp) (Q:List V->Hp->Prop),Inv X pins σ H s->t σ H Q->wpAny (model X.prog X.w) X.A (spliced (backTo pos (starEach es X.env))) (AP X pins σ Q) X.xe s
noncomputable def PS (X:Cx) (st:Stmt) (t:TS):Prop :=
 ∀ (pins:List (Addr×Obj)) (s:Shared) (σ:St) (H:Hp) (D:Ends),Inv X pins σ H s->t D σ H->wpAny (model X.prog X.w) X.A (exec st X.env) (SP X pins D) X.xe s
noncomputable def PSs (X:Cx) (st:List Stmt) (t:TS):Prop :=
 ∀ (pins:List (Addr×Obj)) (s:Shared) (σ:St) (H:Hp) (D:Ends),Inv X pins σ H s->t D σ H->wpAny (model X.prog X.w) X.A (execs st X.env) (SP X pins D) X.xe s
theorem thn {α:Type} {t:Sem α} {Q Q':α->Shared->Prop} {M:Model} {A:Around} {E:Value->Shared->Prop} {s:Shared} (h:wpAny M A t Q E s) (hQ:∀ a s,Q a s->Q' a s):wpAny M A t Q' E s:=wpAny_mono h hQ fun _ _ x=>x
end L2
namespace L2
open PySem PySem.Spec PyProof.Rows
section
variable {X:Cx}
theorem bin {a b:Expr} {ta tb:TE} (ha:PE X a ta) (hb:PE X b tb) {pins:List (Addr×Obj)} {s:Shared} {σ:St} {H:Hp} {R:V->V->Hp->Prop} (I:Inv X pins σ H s) (h:ta σ H fun x H1=>tb σ H1 fun y H2=>R x y H2)
  {α:Type} {Q:α->Shared->Prop} {f:Value->Value->Sem α}
  (hf:∀ v u s2 x y H2,Inv X pins σ H2 s2->RelV x v->RelV y u->R x y H2->wpAny (model X.prog X.w) X.A (f v u) Q X.xe s2) :
  wpAny (model X.prog X.w) X.A (eval a X.env) (fun v s₁=>wpAny (model X.prog X.w) X.A (eval b X.env) (fun u s₂=>wpAny (model X.prog X.w) X.A (f v u) Q X.xe s₂) X.xe s₁) X.xe s:=by
 refine thn (ha pins s σ H _ I h) fun v s1 ⟨x,H1,I1,r1,q1⟩=>?_
 refine thn (hb pins s1 σ H1 _ I1 q1) fun u s2 ⟨y,H2,I2,r2,q2⟩=>?_
 exact hf v u s2 x y H2 I2 r1 r2 q2
noncomputable def tVar (i:Nat):TE:=fun σ H Q=>∃ v,σ[i]? = some (some v)/\Q v H
noncomputable def tC (v:V):TE:=fun _ H Q=>Q v H
theorem Wa3 {i:Nat} {x:Str} {pos:Pos} (hN:X.N[i]? = some x) (hv:Vis X.env.scope x) (hd:(x == ("__debug__" : Str))=false:=by decide) (hcd:(x == ("__classdict__" : Str))=false:=by decide):PE X (.Name x pos) (tVar i):=by
 intro pins s σ H Q I h
 obtain ⟨v,e,h⟩:=h
 obtain ⟨m,hn,hl⟩:=I.loc
 obtain ⟨u,r,l⟩:=hl i x v hN e hv
 have fin:EP X pins σ Q u s:=⟨v,H,I,r,h⟩
 rcases l with ⟨hk,hm⟩ | ⟨hk,c,hc,hcell⟩
 ·exact wpAny_Name (wpAny_loadName_local I.ok.kind hk hn hm fin) hd
 ·rcases hk with hk | hk
  ·exact wpAny_Name (wpAny_loadName_cell I.ok.kind hk hc hcell fin) hd
  ·exact wpAny_Name (wpAny_loadName_free I.ok.kind hk hc hcell fin hcd) hd
theorem Vam {i j pos}:PE X (.Constant (.int i) j pos) (tC (.int i)):=fun _ _ _ H _ I h=>wpAny_Constant_int ⟨.int i,H,I.tok _,⟨_,rfl⟩,h⟩
theorem pe_bl {b j pos}:PE X (.Constant (.bool b) j pos) (tC (.bl b)):=fun _ _ _ H _ I h=>Constant_bool ⟨.bl b,H,I,rfl,h⟩
theorem pe_non {j pos}:PE X (.Constant .none j pos) (tC .non):=fun _ _ _ H _ I h=>Constant_none ⟨.non,H,I,rfl,h⟩
theorem pe_str {x j pos}:PE X (.Constant (.str x) j pos) (tC (.str x)):=fun _ _ _ H _ I h=>Calls.Constant_str ⟨.str x,H,I.tok _,⟨_,rfl⟩,h⟩
noncomputable def Gl (X:Cx) (x:Str):Prop:=X.env.kindOf x=some .globalImplicit
theorem Yaw {E:Value->Shared->Prop} {pins:List (Addr×Obj)} {s:Shared} {σ:St} {H:Hp} {x:Str} {u:Value} {pos:Pos} {Q:Value->Shared->Prop} (I:Inv X pins σ H s) (hg:Gl X x) (hm:X.mg x=some u) (h:Q u s)
  (hd:(x == ("__debug__" : Str))=false:=by decide):wpAny (model X.prog X.w) X.A (eval (.Name x pos) X.env) Q E s :=
 Calls.Name_function_global I.ok.kind hg (Calls.loadGlobal_global (by rw [I.ok.glob]; exact I.mod.glob.keeps I.bk) hm h) hd
theorem Vt {E:Value->Shared->Prop} {pins:List (Addr×Obj)} {s:Shared} {σ:St} {H:Hp} {x:Str} {u:Value} {pos:Pos} {Q:Value->Shared->Prop} (I:Inv X pins σ H s) (hg:Gl X x) (hm:X.mg x=none) (hv:bootBuiltins x=some u) (h:Q u s)
  (hn:x≠"__name__":=by decide) (hd:(x == ("__debug__" : Str))=false:=by decide):wpAny (model X.prog X.w) X.A (eval (.Name x pos) X.env) Q E s:=by
 obtain ⟨mb,h1,h2⟩:=I.mod.blt
 exact Calls.Name_function_global I.ok.kind hg (Calls.loadGlobal_builtin (by rw [I.ok.glob]; exact I.mod.glob.keeps I.bk) hm (by rw [I.ok.blt]; exact h1.keeps I.bk) ((h2 x hn).trans hv) h) hd
theorem pe_glob {x:Str} {v:V} {u:Value} {pos:Pos} (hg:Gl X x) (hm:X.mg x=some u) (r:RelV v u) (hd:(x == ("__debug__" : Str))=false:=by decide):PE X (.Name x pos) (tC v) :=
 fun _ _ _ H _ I h=>Yaw I hg hm ⟨v,H,I,r,h⟩ hd
theorem pe_bltn {x:Str} {v:V} {u:Value} {pos:Pos} (hg:Gl X x) (hm:X.mg x=none) (hv:bootBuiltins x=some u) (r:RelV v u) (hn:x≠"__name__":=by decide) (hd:(x == ("__debug__" : Str))=false:=by decide):PE X (.Name x pos) (tC v) :=
 fun _ _ _ H _ I h=>Vt I hg hm hv ⟨v,H,I,r,h⟩ hn hd
variable {a b:Expr} {ta tb:TE} {pos:Pos}
variable {tA tB':TT} {rest:List Expr}
noncomputable def tAnd (t u:TT):TT:=fun σ H Q=>t σ H fun c H1=>if c=true then u σ H1 Q else Q false H1
noncomputable def tOr (t u:TT):TT:=fun σ H Q=>t σ H fun c H1=>if c=true then Q true H1 else u σ H1 Q
noncomputable def tNot (t:TT):TT:=fun σ H Q=>t σ H fun c H1=>Q (!c) H1
theorem pw_and1 (ha:PT X a tA):PW X (.BoolOp .And [a] pos) tA:=by
 intro wh pins s σ H Q I h
 refine isTrue_and (thn (ha pins s σ H Q I h) fun c s1 e=>?_)
 cases c with
 | true=>exact isTrue_and_nil e
 | false=>exact e
theorem pw_or1 (ha:PT X a tA):PW X (.BoolOp .Or [a] pos) tA:=by
 intro wh pins s σ H Q I h
 refine isTrue_or (thn (ha pins s σ H Q I h) fun c s1 e=>?_)
 cases c with
 | false=>exact isTrue_or_nil e
 | true=>exact e
theorem pw_and (ha:PT X a tA) (hb:PW X (.BoolOp .And (b :: rest) pos) tB'):PW X (.BoolOp .And (a :: b :: rest) pos) (tAnd tA tB'):=by
 intro wh pins s σ H Q I h
 refine isTrue_and (thn (ha pins s σ H _ I h) fun c s1 ⟨H1,I1,q1⟩=>?_)
 cases c with
 | true=>exact hb wh pins s1 σ H1 Q I1 q1
 | false=>exact ⟨H1,I1,q1⟩
theorem pw_or (ha:PT X a tA) (hb:PW X (.BoolOp .Or (b :: rest) pos) tB'):PW X (.BoolOp .Or (a :: b :: rest) pos) (tOr tA tB'):=by
 intro wh pins s σ H Q I h
 refine isTrue_or (thn (ha pins s σ H _ I h) fun c s1 ⟨H1,I1,q1⟩=>?_)
 cases c with
 | true=>exact ⟨H1,I1,q1⟩
 | false=>exact hb wh pins s1 σ H1 Q I1 q1
theorem pt_not (ha:PT X a tA):PT X (.UnaryOp .Not a pos) (tNot tA):=by
 intro pins s σ H Q I h
 exact isTrue_not (ha pins s σ H (fun c H1=>Q (!c) H1) I h)
noncomputable def tAndV (ta tb:TE):TE:=fun σ H Q=>ta σ H fun x H1=>∃ c,x = .bl c/\if c=true then tb σ H1 Q else Q (.bl false) H1
noncomputable def tOrV (ta tb:TE):TE:=fun σ H Q=>ta σ H fun x H1=>∃ c,x = .bl c/\if c=true then Q (.bl true) H1 else tb σ H1 Q
noncomputable def tNotV (ta:TE):TE:=fun σ H Q=>ta σ H fun x H1=>∃ c,x = .bl c/\Q (.bl (!c)) H1
theorem pe_one {op} {t:TE} (h:PE X a t):PE X (.BoolOp op [a] pos) t:=fun pins s σ H Q I hw=>BoolOp_one (h pins s σ H Q I hw)
theorem pe_and (ha:PE X a ta) (hb:PE X (.BoolOp .And (b :: rest) pos) tb):PE X (.BoolOp .And (a :: b :: rest) pos) (tAndV ta tb):=by
 intro pins s σ H Q I h
 refine BoolOp_and (thn (ha pins s σ H _ I h) fun v s1 ⟨x,H1,I1,r1,q1⟩=>?_)
 obtain ⟨c,rfl,q1⟩:=q1
 cases r1
 refine wpAny_truthy_bool ?_
 cases c with
 | true=>exact hb pins s1 σ H1 Q I1 q1
 | false=>exact ⟨.bl false,H1,I1,rfl,q1⟩
theorem pe_or (ha:PE X a ta) (hb:PE X (.BoolOp .Or (b :: rest) pos) tb):PE X (.BoolOp .Or (a :: b :: rest) pos) (tOrV ta tb):=by
 intro pins s σ H Q I h
 refine BoolOp_or (thn (ha pins s σ H _ I h) fun v s1 ⟨x,H1,I1,r1,q1⟩=>?_)
 obtain ⟨c,rfl,q1⟩:=q1
 cases r1
 refine wpAny_truthy_bool ?_
 cases c with
 | false=>exact hb pins s1 σ H1 Q I1 q1
 | true=>exact ⟨.bl true,H1,I1,rfl,q1⟩
theorem pe_not (ha:PE X a ta):PE X (.UnaryOp .Not a pos) (tNotV ta):=by
 intro pins s σ H Q I h
 refine UnaryOp_ (thn (ha pins s σ H _ I h) fun v s1 ⟨x,H1,I1,r1,q1⟩=>?_)
 obtain ⟨c,rfl,q1⟩:=q1
 cases r1
 exact not_of (wpAny_truthy_bool ⟨.bl (!c),H1,I1,rfl,q1⟩)
end
end L2
namespace L2
open PySem PySem.Spec PyProof.Rows
noncomputable def SqL (K:PySem.W.Frag) (H:Hp) (a:Addr) (xs:List V):Prop :=
 Rd H a (.lst xs) ∨
  ∃ (o:Obj) (its:Array Value) (n:Nat),K.lookup a=some o/\o.cls = .type "list"/\o.dict=none/\o.data = .seq its n/\its.size<=sizeLine/\Vals xs its.toList
noncomputable def SqT (K:PySem.W.Frag) (H:Hp) (a:Addr) (xs:List V):Prop :=
 Rd H a (.tup xs) ∨
  ∃ (o:Obj) (its:Array Value) (n:Nat),K.lookup a=some o/\o.cls = .type "tuple"/\o.data = .seq its n/\its.size<=sizeLine/\Vals xs its.toList
noncomputable def absV:Value->Option V
 | .none=>some .non
 | .bool b=>some (.bl b)
 | .int i _=>some (.int i)
 | .str x _=>some (.str x)
 | .bytes b _=>some (.byt b)
 | .float b _=>some (.flt b)
 | .ref a=>some (.ref a)
 | .type n=>some (.ty n)
 | _=>none
theorem RelV.abs {x:V} {u:Value} (r:RelV x u):absV u=some x:=by
 cases x with
 | non=>cases r; rfl
 | bl _=>cases r; rfl
 | int _=>obtain ⟨t,rfl⟩:=r; rfl
 | str _=>obtain ⟨t,rfl⟩:=r; rfl
 | byt _=>obtain ⟨t,rfl⟩:=r; rfl
 | flt _=>obtain ⟨t,rfl⟩:=r; rfl
 | ref _=>cases r; rfl
 | ty _=>cases r; rfl
theorem RelV.inj {x y:V} {u:Value} (r:RelV x u) (q:RelV y u):x=y:=Option.some.inj (r.abs.symm.trans q.abs)
theorem Vals.inj:∀ {xs ys:List V} {us:List Value},Vals xs us->Vals ys us->xs=ys
 | _,_,_,.nil,.nil=>rfl
 | _,_,_,.cons r t,.cons r' t'=>by rw [r.inj r',Vals.inj t t']
section
variable {X:Cx} {pins:List (Addr×Obj)} {σ:St} {H:Hp} {s:Shared} {a:Addr} {xs ys:List V}
theorem SqL.of {K:PySem.W.Frag} (h:H a=some (.lst xs)):SqL K H a xs:=.inl (.inl h)
theorem SqT.of {K:PySem.W.Frag} (h:H a=some (.tup xs)):SqT K H a xs:=.inl (.inl h)
theorem Inv.list (I:Inv X pins σ H s) (h:SqL X.K H a xs):∃ its:List Value,Vals xs its/\PlainL s.heap a its.toArray/\xs.length<=sizeLine:=by
 rcases h with h | ⟨o,its,n,hk,hc,hd,hs,hz,r⟩
 ·obtain ⟨z,its,n,r,e⟩:=h.ok I.hok
  exact ⟨its,r,⟨_,n,e,rfl,rfl,rfl⟩,z⟩
 ·refine ⟨its.toList,r,⟨o,n,I.kIn a o hk,hc,hd,by simpa using hs⟩,?_⟩
  have e:=r.length
  simp only [Array.length_toList] at e
  omega
theorem Inv.tuple (I:Inv X pins σ H s) (h:SqT X.K H a xs):∃ its:List Value,Vals xs its/\IsTup s.heap a its.toArray/\xs.length<=sizeLine:=by
 rcases h with h | ⟨o,its,n,hk,hc,hs,hz,r⟩
 ·obtain ⟨z,its,r,p⟩:=h.ok I.hok
  exact ⟨its,r,p.is,z⟩
 ·refine ⟨its.toList,r,⟨o,I.kIn a o hk,hc,n,by simpa using hs⟩,?_⟩
  have e:=r.length
  simp only [Array.length_toList] at e
  omega
theorem Inv.list_inj (I:Inv X pins σ H s) (h:SqL X.K H a xs) (h':SqL X.K H a ys):xs=ys:=by
 obtain ⟨its,r,⟨o,n,e,_,_,d⟩,_⟩:=I.list h
 obtain ⟨its',r',⟨o',n',e',_,_,d'⟩,_⟩:=I.list h'
 rw [e] at e'; cases e'
 rw [d] at d'
 injection d' with d1 _
 have:its=its':=by simpa using congrArg Array.toList d1
 subst this
 exact r.inj r'
theorem Inv.tuple_inj (I:Inv X pins σ H s) (h:SqT X.K H a xs) (h':SqT X.K H a ys):xs=ys:=by
 obtain ⟨its,r,⟨o,e,_,n,d⟩,_⟩:=I.tuple h
 obtain ⟨its',r',⟨o',e',_,n',d'⟩,_⟩:=I.tuple h'
 rw [e] at e'; cases e'
 rw [d] at d'
 injection d' with d1 _
 have:its=its':=by simpa using congrArg Array.toList d1
 subst this
 exact r.inj r'
end
noncomputable abbrev Cx.wish (X:Cx) (E:Value->Shared->Prop):Cx:={ X with xe:=E }
noncomputable abbrev Cx.nox (X:Cx):Cx:=X.wish fun _ _=>False
theorem Cx.Ok.wish {X:Cx} (ok:X.Ok) (E:Value->Shared->Prop):(X.wish E).Ok :=
 ⟨ok.mod,ok.kind,ok.glob,ok.blt,ok.above,ok.inj,ok.has,ok.cab,ok.hd,ok.frames,ok.stk,ok.exf,ok.bs,ok.bsz,ok.noex,ok.exfs,ok.funs,ok.frf⟩
theorem Cx.Ok.unwish {X:Cx} {E:Value->Shared->Prop} (ok:(X.wish E).Ok):X.Ok :=
 ⟨ok.mod,ok.kind,ok.glob,ok.blt,ok.above,ok.inj,ok.has,ok.cab,ok.hd,ok.frames,ok.stk,ok.exf,ok.bs,ok.bsz,ok.noex,ok.exfs,ok.funs,ok.frf⟩
section
variable {X:Cx} {pins:List (Addr×Obj)} {σ:St} {H:Hp} {s:Shared} {E:Value->Shared->Prop}
theorem Inv.wish (I:Inv X pins σ H s) (E:Value->Shared->Prop):Inv (X.wish E) pins σ H s:=⟨I.ok.wish E,I.os,I.bare,I.base,I.loc,I.cell,I.free,I.freeC,I.pin,I.hok,I.len,I.hh⟩
theorem Inv.unwish (I:Inv (X.wish E) pins σ H s):Inv X pins σ H s:=⟨I.ok.unwish,I.os,I.bare,I.base,I.loc,I.cell,I.free,I.freeC,I.pin,I.hok,I.len,I.hh⟩
theorem SP.unwish {D:Ends} {f:Flow} {s':Shared} (h:SP (X.wish E) pins D f s'):SP X pins D f s':=by
 cases f with
 | next=>obtain ⟨σ',H',I,q⟩:=h; exact ⟨σ',H',I.unwish,q⟩
 | brk=>obtain ⟨σ',H',I,q⟩:=h; exact ⟨σ',H',I.unwish,q⟩
 | cont=>obtain ⟨σ',H',I,q⟩:=h; exact ⟨σ',H',I.unwish,q⟩
 | ret u=>obtain ⟨v,σ',H',I,r,q⟩:=h; exact ⟨v,σ',H',I.unwish,r,q⟩
theorem PE.nox {e:Expr} {t:TE} (h:PE X.nox e t):PE X e t:=fun pins s σ H Q I hw =>
 wpAny_mono (h pins s σ H Q (I.wish _) hw) (fun _ _ ⟨v,H',I',r,q⟩=>⟨v,H',I'.unwish,r,q⟩) fun _ _ z=>False.elim z
theorem PT.nox {e:Expr} {t:TT} (h:PT X.nox e t):PT X e t:=fun pins s σ H Q I hw =>
 wpAny_mono (h pins s σ H Q (I.wish _) hw) (fun _ _ ⟨H',I',q⟩=>⟨H',I'.unwish,q⟩) fun _ _ z=>False.elim z
theorem PSs.nox {st:List Stmt} {t:TS} (h:PSs X.nox st t):PSs X st t:=fun pins s σ H D I hw =>
 wpAny_mono (h pins s σ H D (I.wish _) hw) (fun _ _ q=>q.unwish) fun _ _ z=>False.elim z
end
section
variable {X:Cx} {st:Stmt} {rest:List Stmt} {t u:TS} {e:Expr} {te:TE} {pos:Pos}
noncomputable def tNext:TS:=fun D σ H=>D.nx σ H
noncomputable def tSeq (t u:TS):TS:=fun D σ H=>t { D with nx:=u D } σ H
theorem pss_nil:PSs X [] tNext:=fun _ _ σ H _ I h=>wpAny_execs_nil ⟨σ,H,I,h⟩
theorem Wb9 (h1:PS X st t) (h2:PSs X rest u):PSs X (st :: rest) (tSeq t u):=by
 intro pins s σ H D I h
 refine wpAny_execs_cons (thn (h1 pins s σ H { D with nx:=u D } I h) fun f s1 q=>?_)
 cases f with
 | next =>
  obtain ⟨σ',H',I',q⟩:=q
  exact h2 pins s1 σ' H' D I' q
 | ret v=>exact q
 | brk=>exact q
 | cont=>exact q
theorem Inv.quiet {pins:List (Addr×Obj)} {σ:St} {H:Hp} {s:Shared} (I:Inv X pins σ H s):interactive X.env=false:=by simp [interactive,I.ok.kind]
noncomputable def tDrop (te:TE):TS:=fun D σ H=>te σ H fun _ H1=>D.nx σ H1
theorem ps_expr (he:PE X e te) (hs:swapsWith e none pos.line X.env=pure false:=by rfl):PS X (.Expr e pos) (tDrop te):=by
 intro pins s σ H D I h
 exact wpAny_Expr_any (thn (he pins s σ H _ I h) fun v s1 ⟨x,H1,I1,r1,q1⟩=>⟨σ,H1,I1,q1⟩) I.quiet hs
noncomputable def tRet (te:TE):TS:=fun D σ H=>te σ H D.rt
theorem ps_ret (he:PE X e te):PS X (.Return (some e) pos) (tRet te):=by
 intro pins s σ H D I h
 exact wpAny_Return_some (thn (he pins s σ H _ I h) fun v s1 ⟨x,H1,I1,r1,q1⟩=>⟨x,σ,H1,I1,r1,q1⟩)
noncomputable def tIfS (c:TT) (t u:TS):TS:=fun D σ H=>c σ H fun b H1=>if b=true then t D σ H1 else u D σ H1
theorem ps_if {c:Expr} {a b:List Stmt} {tc:TT} (hc:PT X c tc) (ha:PSs X a t) (hb:PSs X b u):PS X (.If c a b pos) (tIfS tc t u):=by
 intro pins s σ H D I h
 refine wpAny_If (thn (hc pins s σ H _ I h) fun d s1 ⟨H1,I1,q1⟩=>?_)
 cases d with
 | true=>exact ha pins s1 σ H1 D I1 q1
 | false=>exact hb pins s1 σ H1 D I1 q1
end
noncomputable abbrev TG:=V->St->Hp->(St->Hp->Prop)->Prop
noncomputable abbrev TGs:=List V->St->Hp->(St->Hp->Prop)->Prop
noncomputable def PG (X:Cx) (target:Expr) (t:TG):Prop :=
 ∀ (pins:List (Addr×Obj)) (s:Shared) (σ:St) (H:Hp) (v:V) (u:Value) (Q:St->Hp->Prop),Inv X pins σ H s->RelV v u->t v σ H Q ->
  wpAny (model X.prog X.w) X.A (assign target X.env u) (fun _ s'=>∃ σ' H',Inv X pins σ' H' s'/\Q σ' H') X.xe s
noncomputable def PGs (X:Cx) (ts:List Expr) (t:TGs):Prop :=
 ∀ (pins:List (Addr×Obj)) (s:Shared) (σ:St) (H:Hp) (vs:List V) (us:List Value) (Q:St->Hp->Prop),Inv X pins σ H s->Vals vs us->t vs σ H Q ->
  wpAny (model X.prog X.w) X.A (assignInOrder ((assignEach ts X.env).map (·.2)) us) (fun _ s'=>∃ σ' H',Inv X pins σ' H' s'/\Q σ' H') X.xe s
noncomputable abbrev TSet:=V->V->V->Hp->(Hp->Prop)->Prop
noncomputable def PSet (X:Cx) (t:TSet):Prop :=
 ∀ (pins:List (Addr×Obj)) (s:Shared) (σ:St) (H:Hp) (o i v:V) (ov iv u:Value) (Q:Hp->Prop),Inv X pins σ H s->RelV o ov->RelV i iv->RelV v u->t o i v H Q ->
  wpAny (model X.prog X.w) X.A (setItem ov iv u) (fun _ s'=>∃ H',Inv X pins σ H' s'/\Q H') X.xe s
noncomputable abbrev TIp:=V->V->Hp->VK->Prop
noncomputable def PIp (X:Cx) (op:Operator) (t:TIp):Prop :=
 ∀ (pins:List (Addr×Obj)) (s:Shared) (σ:St) (H:Hp) (x y:V) (v u:Value) (Q:VK),Inv X pins σ H s->RelV x v->RelV y u->t x y H Q ->
  wpAny (model X.prog X.w) X.A (inplaceOp op v u) (EP X pins σ Q) X.xe s
section
variable {X:Cx} {pos:Pos}
noncomputable def Wbu (i:Nat):TG:=fun v σ H Q=>Q (σ.set i (some v)) H
theorem Zbo {i:Nat} {x:Str} (hN:X.N.Nodup) (hi:X.N[i]? = some x) (hx:Loc X.env.scope x) (hf:X.fn x=true∨X.env.scope.names.lookup x=some .local:=by first | exact .inl rfl | exact .inr rfl | assumption):PG X (.Name x pos) (Wbu i):=by
 intro pins s σ H v u Q I r h
 exact wpAny_assign_Name (Zag I hN hi hx r (fun s' I'=>⟨_,H,I',h⟩) hf)
noncomputable def gNil:TGs:=fun vs σ H Q=>vs=[]/\Q σ H
noncomputable def gCons (t:TG) (u:TGs):TGs:=fun vs σ H Q=>∃ v r,vs=v :: r/\t v σ H fun σ' H'=>u r σ' H' Q
theorem pgs_nil:PGs X [] gNil:=by
 intro pins s σ H vs us Q I r h
 obtain ⟨e,h⟩:=h
 subst e
 cases r
 exact assignInOrder_nil ⟨σ,H,I,h⟩
theorem Ycb {e:Expr} {es:List Expr} {t:TG} {u:TGs} (h1:PG X e t) (h2:PGs X es u)
  (hs:(assignEach (e :: es) X.env).map (·.2)=assign e X.env :: (assignEach es X.env).map (·.2):=by rfl):PGs X (e :: es) (gCons t u):=by
 intro pins s σ H vs us Q I r h
 obtain ⟨v,vr,e1,h⟩:=h
 subst e1
 cases r with
 | cons r rr =>
  rw [hs]
  refine assignInOrder_cons (thn (h1 pins s σ H _ _ _ I r h) fun _ s1 ⟨σ1,H1,I1,q1⟩=>?_)
  exact h2 pins s1 σ1 H1 _ _ Q I1 rr q1
noncomputable def gTup (K:PySem.W.Frag) (n:Nat) (t:TGs):TG:=fun v σ H Q=>∃ a xs,v = .ref a/\SqT K H a xs/\xs.length=n/\t xs σ H Q
theorem pg_tup {es:List Expr} {k:Nat} {t:TGs} {n:Nat} (hc:X.calm=true) (h:PGs X es t)
  (hn:(assignEach es X.env).length=n:=by rfl) (hst:(assignEach es X.env).findIdx? (·.1)=none:=by rfl):PG X (.Tuple es k pos) (gTup X.K n t):=by
 intro pins s σ H v u Q I r hw
 obtain ⟨a,xs,e1,hq,hl,hw⟩:=hw
 subst e1
 cases r
 obtain ⟨its,rv,ht,hz⟩:=I.tuple hq
 refine assign_Tuple_tuple (I.ok.hd hc) ht (by simp [hn,<- hl,rv.length]) hst fun h' hx=>?_
 have I1:Inv X pins σ H { s with heap:=h' }:=I.kept (t':=s.toks) fun b o e=>hx b o (Nat.ne_of_lt (Heap.lt_size e)) e
 exact h pins _ σ H xs _ Q I1 (by simpa using rv) hw
noncomputable def gSub (to ti:TE) (t:TSet):TG:=fun v σ H Q=>to σ H fun o H1=>ti σ H1 fun i H2=>t o i v H2 fun H3=>Q σ H3
theorem pg_sub {o i:Expr} {to ti:TE} {t:TSet} (ho:PE X o to) (hi:PE X i ti) (hs:PSet X t)
  (ha:∀ v,assign (.Subscript o i pos) X.env v=(do
   let ov <- holding [v] (eval o X.env)
   let iv <- holding [v,ov] (eval i X.env)
   standAt pos
   holding [v,ov,iv] (setItem ov iv v)
   release [v,ov,iv] []):=by intro _; rfl):PG X (.Subscript o i pos) (gSub to ti t):=by
 intro pins s σ H v u Q I r h
 rw [ha]
 refine wpAny_bind (wpAny_holding (thn (ho pins s σ H _ I h) fun ov s1 ⟨x,H1,I1,r1,q1⟩=>?_))
 refine wpAny_bind (wpAny_holding (thn (hi pins s1 σ H1 _ I1 q1) fun iv s2 ⟨y,H2,I2,r2,q2⟩=>?_))
 refine wpAny_bind (wpAny_standAt (wpAny_bind (wpAny_holding (thn (hs pins s2 σ H2 x y v ov iv u _ I2 r1 r2 r q2) fun _ s3 ⟨H3,I3,q3⟩=>?_))))
 exact wpAny_release ⟨σ,H3,I3,q3⟩
noncomputable def tAsg (te:TE) (g:TG):TS:=fun D σ H=>te σ H fun x H1=>g x σ H1 D.nx
theorem ps_asg {tg e:Expr} {te:TE} {g:TG} (he:PE X e te) (hg:PG X tg g) (hs:swapsWithSole [tg] e pos.line X.env=pure false:=by rfl) (hw:swappedStores [tg] e X.env=pure none:=by rfl)
  (h1:(assignEach [tg] X.env).map (·.2)=[assign tg X.env]:=by rfl):PS X (.Assign [tg] e pos) (tAsg te g):=by
 intro pins s σ H D I h
 refine wpAny_Assign_stores (thn (he pins s σ H _ I h) fun v s1 ⟨x,H1,I1,r1,q1⟩=>?_) hs hw
 rw [h1]
 exact thn (hg pins s1 σ H1 x v _ I1 r1 q1) fun _ s2 q=>q
theorem ps_set {i:Nat} {x:Str} {e:Expr} {te:TE} {pos':Pos} (hN:X.N.Nodup) (hi:X.N[i]? = some x) (hx:Loc X.env.scope x) (he:PE X e te) (hs:swapsWith e (some (.Name x pos')) pos.line X.env=pure false:=by rfl) (hf:X.fn x=true∨X.env.scope.names.lookup x=some .local:=by first | exact .inl rfl | exact .inr rfl | assumption) :
  PS X (.Assign [.Name x pos'] e pos) (tAsg te (Wbu i)):=by
 intro pins s σ H D I h
 refine wpAny_Assign_Name (thn (he pins s σ H _ I h) fun v s1 ⟨y,H1,I1,r1,q1⟩=>?_) hs
 exact Zag I1 hN hi hx r1 (fun s2 I2=>⟨_,H1,I2,q1⟩) hf
noncomputable def tAug (i:Nat) (te:TE) (ti:TIp):TS:=fun D σ H=>∃ x,σ[i]? = some (some x)/\te σ H fun y H1=>ti x y H1 fun z H2=>D.nx (σ.set i (some z)) H2
theorem ps_aug {i:Nat} {x:Str} {e:Expr} {te:TE} {op:Operator} {ti:TIp} {pos':Pos} (hN:X.N.Nodup) (hi:X.N[i]? = some x) (hx:Loc X.env.scope x) (he:PE X e te) (ho:PIp X op ti) (hf:X.fn x=true∨X.env.scope.names.lookup x=some .local:=by first | exact .inl rfl | exact .inr rfl | assumption) :
  PS X (.AugAssign (.Name x pos') op e pos) (tAug i te ti):=by
 intro pins s σ H D I h
 obtain ⟨v,e1,h⟩:=h
 obtain ⟨m,hn,hl⟩:=I.loc
 have vis:Vis X.env.scope x:=by rcases hx with k | k; exact .inl k; exact .inr (.inl k)
 obtain ⟨u,r,l⟩:=hl i x v hi e1 vis
 refine wpAny_AugAssign_Name ?_
 have go:wpAny (model X.prog X.w) X.A (eval e X.env) (fun w s₂=>wpAny (model X.prog X.w) X.A (inplaceOp op u w) (fun r s₃=>wpAny (model X.prog X.w) X.A (storeName X.env x r) (fun _=>SP X pins D .next) X.xe s₃) X.xe s₂) X.xe s:=by
  refine thn (he pins s σ H _ I h) fun w s1 ⟨y,H1,I1,r1,q1⟩=>?_
  refine thn (ho pins s1 σ H1 v y u w _ I1 r r1 q1) fun z s2 ⟨zv,H2,I2,r2,q2⟩=>?_
  exact Zag I2 hN hi hx r2 (fun s3 I3=>⟨_,H2,I3,q2⟩) hf
 rcases l with ⟨hk,hm⟩ | ⟨hk,c,hc,hcell⟩
 ·exact wpAny_loadName_local I.ok.kind hk hn hm go
 ·rcases hk with hk | hk
  ·exact wpAny_loadName_cell I.ok.kind hk hc hcell go
  ·rcases hx with k | k
   ·have:X.env.scope.names.lookup x=some .free:=hk
    rw [k] at this; cases this
   ·have:X.env.scope.names.lookup x=some .free:=hk
    rw [k] at this; cases this
noncomputable def ipI (f:Int->Int->Int):TIp:=fun x y H Q=>∃ i j,x = .int i/\y = .int j/\Q (.int (f i j)) H
theorem ip_add:PIp X .Add (ipI fun i j=>i + j):=by
 intro pins s σ H x y v u Q I r1 r2 h
 obtain ⟨i,j,e1,e2,q⟩:=h
 subst e1; subst e2
 obtain ⟨t,rfl⟩:=r1
 obtain ⟨t',rfl⟩:=r2
 exact iadd_int ⟨.int _,H,I.tok _,⟨_,rfl⟩,q⟩
theorem ip_sub:PIp X .Sub (ipI fun i j=>i - j):=by
 intro pins s σ H x y v u Q I r1 r2 h
 obtain ⟨i,j,e1,e2,q⟩:=h
 subst e1; subst e2
 obtain ⟨t,rfl⟩:=r1
 obtain ⟨t',rfl⟩:=r2
 exact isub_int ⟨.int _,H,I.tok _,⟨_,rfl⟩,q⟩
end
section
variable {X:Cx} {pos:Pos}
noncomputable def tWhile (c:TT) (tb:TS):TS:=fun D σ H=>∃ W:Nat->St->Hp->Prop,(∃ m,W m σ H)/\∀ m σ H,W m σ H ->
 c σ H fun b H1=>if b=true then ∃ N:St->Hp->Prop,(∀ σ' H',N σ' H'->∃ m',m' < m/\W m' σ' H')/\tb { D with nx:=N,ct:=N,bk:=D.nx } σ H1 else D.nx σ H1
theorem Vb9 {c:Expr} {body:List Stmt} {tc:TT} {tb:TS} (hp:PassesOwn (model X.prog X.w) X.A X.env X.xe) (hc:PT X c tc) (hb:PSs X body tb):PS X (.While c body [] pos) (tWhile tc tb):=by
 intro pins s σ H D I h
 obtain ⟨W,⟨m0,w0⟩,turn⟩:=h
 refine wpAny_While (codeAny_whileLoop (fun n s'=>∃ σ' H',Inv X pins σ' H' s'/\W n σ' H') ?_ m0 ⟨σ,H,I,w0⟩)
 rintro n s1 ⟨σ1,H1,I1,w1⟩
 refine wpAny_passesOwn hp (thn (hc pins s1 σ1 H1 _ I1 (turn n σ1 H1 w1)) fun b s2 ⟨H2,I2,q2⟩=>?_)
 cases b with
 | true =>
  obtain ⟨N,hN,q2⟩:=q2
  rw [if_pos rfl]
  refine wpAny_passesOwn hp (thn (hb pins s2 σ1 H2 _ I2 q2) fun f s3 q3=>?_)
  cases f with
  | next =>
   obtain ⟨σ3,H3,I3,n3⟩:=q3
   obtain ⟨m',hm,w3⟩:=hN σ3 H3 n3
   exact ⟨m',hm,σ3,H3,I3,w3⟩
  | cont =>
   obtain ⟨σ3,H3,I3,n3⟩:=q3
   obtain ⟨m',hm,w3⟩:=hN σ3 H3 n3
   exact ⟨m',hm,σ3,H3,I3,w3⟩
  | brk=>exact q3
  | ret v=>exact q3
 | false =>
  rw [if_neg Bool.false_ne_true]
  exact wpAny_execs_nil ⟨σ1,H2,I2,q2⟩
end
structure It where
 go:Nat->Hp->Prop
 yld:Nat->Hp->V->Hp->Prop
 stop:Nat->Hp->Prop
noncomputable def FpOk (X:Cx) (pins:List (Addr×Obj)) (H:Hp) (b:Addr):Prop :=
 H b=none/\b≠X.env.locals/\b ∉ X.fs/\(b∈X.ex∨X.s₀.heap.objs.size<=b)/\(∀ x c,X.env.cells.lookup x=some c->c≠b)/\∀ p∈X.pn ++ pins,p.1≠b
theorem Inv.fpOk {X:Cx} {pins:List (Addr×Obj)} {σ:St} {H H':Hp} {s:Shared} {b:Addr} (I:Inv X pins σ H s) (hb:s.heap.objs.size<=b) (hn:H' b=none):FpOk X pins H' b:=by
 refine ⟨hn,Nat.ne_of_gt (Nat.lt_of_lt_of_le I.lt hb),I.nofs hb,.inr (Nat.le_trans I.sz hb),fun x c e z=>?_,fun p hp z=>?_⟩
 ·obtain ⟨v,q⟩:=I.cell x c e
  exact absurd (Nat.lt_of_lt_of_le q.lt (by rw [z]; exact hb)) (Nat.lt_irrefl _)
 ·exact absurd (Nat.lt_of_lt_of_le (Heap.lt_size (I.pin p hp).1) (by rw [z]; exact hb)) (Nat.lt_irrefl _)
structure Turn (cb:Bool) (P:Program) (w:World) (K:PySem.W.Frag) (tg:Expr) (J:It) (fp:List Addr) (it:Addr) (tn:Nat->Heap->Prop):Prop where
 mem:it∈fp
 obj:∀ i h,tn i h->∀ b∈fp,∃ o,h.get? b=some o/\∀ v,o.data≠.cell v
 keep:∀ i h h',tn i h->(∀ b∈fp,∀ o,h.get? b=some o->h'.get? b=some o)->tn i h'
 item:∀ (X:Cx),X.prog=P->X.w=w->X.K=K->X.calm=cb->∀ (i:Nat) (pins:List (Addr×Obj)) (s:Shared) (σ:St) (H:Hp) (E:Value->Shared->Prop),Inv X pins σ H s->(∀ b∈fp,FpOk X pins H b)->tn i s.heap->J.go i H ->
  wpAny (model P w) X.A (pyNext (.ref it)) (fun r s1=>∃ u,r=some u /\
   wpAny (model P w) X.A (letOwnedTupleGo tg (.ref it) u) (fun _ s2=>∃ x H',Inv X pins σ H' s2/\RelV x u/\J.yld i H x H'/\tn (i + 1) s2.heap/\∀ b∈fp,H' b=none) E s1) E s
 done:∀ (X:Cx),X.prog=P->X.w=w->X.K=K->X.calm=cb->∀ (i:Nat) (pins:List (Addr×Obj)) (s:Shared) (σ:St) (H:Hp) (E:Value->Shared->Prop),Inv X pins σ H s->(∀ b∈fp,FpOk X pins H b)->tn i s.heap->J.stop i H ->
  wpAny (model P w) X.A (pyNext (.ref it)) (fun r s1=>r=none/\Inv X pins σ H s1) E s
 self:∀ (A:Around) (i:Nat) (s:Shared) (Q:Value->Shared->Prop) (E:Value->Shared->Prop),tn i s.heap->Q (.ref it) s->wpAny (model P w) A (pyIter (.ref it)) Q E s
noncomputable abbrev TI:=St->Hp->(It->Hp->Prop)->Prop
noncomputable def PIE (X:Cx) (pins:List (Addr×Obj)) (σ:St) (tg:Expr) (R:It->Hp->Prop) (itv:Value) (s2:Shared):Prop :=
 ∃ (it:Addr) (fp:List Addr) (tn:Nat->Heap->Prop) (J:It) (H':Hp),itv = .ref it/\Inv X pins σ H' s2/\Turn X.calm X.prog X.w X.K tg J fp it tn/\tn 0 s2.heap/\(∀ b∈fp,FpOk X pins H' b)/\R J H'
noncomputable def PI (X:Cx) (tg iter:Expr) (wi:TI):Prop :=
 ∀ (pins:List (Addr×Obj)) (s:Shared) (σ:St) (H:Hp) (R:It->Hp->Prop),Inv X pins σ H s->wi σ H R ->
  wpAny (model X.prog X.w) X.A (eval iter X.env) (fun v s1=>wpAny (model X.prog X.w) X.A (pyIter v) (PIE X pins σ tg R) X.xe s1) X.xe s
theorem Vci {M : Model} {A : Around} {E : Value -> Shared -> Prop} {s : Shared} {tg : Expr} {it : Addr} {u : Value} {o : Obj} {n : String} {vs : Array Value} {Q : Unit -> Shared -> Prop} (ho : s.heap.get? it = some o) (hc : o.cls = .type n) (hd : o.data = .fields vs)
    (hn : ["enumerate", "zip", "dict_itemiterator", "dict_reverseitemiterator", "odict_iterator", "itertools.zip_longest", "itertools.pairwise"].contains n = false) (hQ : Q () s) : wpAny M A (letOwnedTupleGo tg (.ref it) u) Q E s := by
  unfold letOwnedTupleGo
  cases tg <;> first
    | exact wpAny_pure hQ
    | (cases u <;> first
        | exact wpAny_pure hQ
        | (refine wpAny_bind (wpAny_load ho ?_)
           rw [hc, hd]
           show wpAny M A (if (["enumerate", "zip", "dict_itemiterator", "dict_reverseitemiterator", "odict_iterator", "itertools.zip_longest", "itertools.pairwise"].contains n && vs[0]? == some (rawInt _)) = true then _ else _) Q E s
           rw [if_neg (by intro h; rw [hn, Bool.false_and] at h; cases h)]
           exact wpAny_pure hQ))
noncomputable def Itl (K:PySem.W.Frag) (a:Addr):It :=
 ⟨fun i H=>∃ xs x,SqL K H a xs/\xs[i]? = some x,fun i H x H'=>H'=H/\∀ xs,SqL K H a xs->xs[i]? = some x,fun i H=>∃ xs,SqL K H a xs/\xs.length<=i⟩
noncomputable def Itt (K:PySem.W.Frag) (a:Addr):It :=
 ⟨fun i H=>∃ xs x,SqT K H a xs/\xs[i]? = some x,fun i H x H'=>H'=H/\∀ xs,SqT K H a xs->xs[i]? = some x,fun i H=>∃ xs,SqT K H a xs/\xs.length<=i⟩
noncomputable def Itr (lo:Int) (n:Nat):It:=⟨fun i _=>i < n,fun i H x H'=>H'=H/\x = .int (lo + i),fun i _=>n<=i⟩
theorem Ybj {cb:Bool} (hcb:cb=true) {P:Program} {w:World} {K:PySem.W.Frag} {tg:Expr} (a it:Addr):Turn cb P w K tg (Itl K a) [it] it (fun i h=>h.IsListIter it a i) where
 mem:=by simp
 obj:=fun i h st b hb=>by
  have e:b=it:=by simpa using hb
  subst e
  obtain ⟨o,e,c,d⟩:=st
  exact ⟨o,e,fun v z=>by rw [d] at z; cases z⟩
 keep:=fun i h h' st k=>st.at fun o e=>k it (by simp) o e
 item:=by
  intro X hP hw hK hc i pins s σ H E I hf st hg
  subst hP hw hK
  obtain ⟨xs,x,hq,hx⟩:=hg
  obtain ⟨its,rv,p,hz⟩:=I.list hq
  obtain ⟨u,hu,ru⟩:=rv.get hx
  obtain ⟨f0,f1,f2,f3,f4,f5⟩:=hf it (by simp)
  refine wpAny_pyNext_list_item st p.isList (x:=u) (by simpa using hu) fun h' st' sb=>?_
  have I1:Inv X pins σ H { s with heap:=h' }:=I.turned (t':=s.toks) (fun b o hb e=>(sb.2 b hb).trans e) f0 f1 f3 f4 f5
  obtain ⟨o,e,c,d⟩:=id st'
  exact ⟨u,rfl,Vci (s:={ s with heap:=h' }) e c d (by decide) ⟨x,H,I1,ru,⟨rfl,fun ys hy=>by rw [I.list_inj hy hq]; exact hx⟩,st',fun b hb=>(hf b hb).1⟩⟩
 done:=by
  intro X hP hw hK hc i pins s σ H E I hf st hg
  subst hP hw hK
  obtain ⟨xs,hq,hx⟩:=hg
  obtain ⟨its,rv,p,hz⟩:=I.list hq
  obtain ⟨f0,f1,f2,f3,f4,f5⟩:=hf it (by simp)
  have hl:=rv.length
  exact wpAny_pyNext_list_end (I.ok.hd (hc.trans hcb)) st p.isList (by simp; omega) fun h' eb=>⟨rfl,I.turned (t':=s.toks) (fun b o hb e=>eb b o hb e) f0 f1 f3 f4 f5⟩
 self:=fun _ _ _ _ _ st h=>wpAny_pyIter_listiter st h
theorem Zba {cb:Bool} (hcb:cb=true) {P:Program} {w:World} {K:PySem.W.Frag} {tg:Expr} (a it:Addr):Turn cb P w K tg (Itt K a) [it] it (fun i h=>h.IsTupleIter it a i) where
 mem:=by simp
 obj:=fun i h st b hb=>by
  have e:b=it:=by simpa using hb
  subst e
  obtain ⟨o,e,c,d⟩:=st
  exact ⟨o,e,fun v z=>by rw [d] at z; cases z⟩
 keep:=fun i h h' st k=>st.at fun o e=>k it (by simp) o e
 item:=by
  intro X hP hw hK hc i pins s σ H E I hf st hg
  subst hP hw hK
  obtain ⟨xs,x,hq,hx⟩:=hg
  obtain ⟨its,rv,p,hz⟩:=I.tuple hq
  obtain ⟨u,hu,ru⟩:=rv.get hx
  obtain ⟨f0,f1,f2,f3,f4,f5⟩:=hf it (by simp)
  refine wpAny_pyNext_tuple_item st (show s.heap.IsTuple a its.toArray from p) (x:=u) (by simpa using hu) fun h' st' sb=>?_
  have I1:Inv X pins σ H { s with heap:=h' }:=I.turned (t':=s.toks) (fun b o hb e=>(sb.2 b hb).trans e) f0 f1 f3 f4 f5
  obtain ⟨o,e,c,d⟩:=id st'
  exact ⟨u,rfl,Vci (s:={ s with heap:=h' }) e c d (by decide) ⟨x,H,I1,ru,⟨rfl,fun ys hy=>by rw [I.tuple_inj hy hq]; exact hx⟩,st',fun b hb=>(hf b hb).1⟩⟩
 done:=by
  intro X hP hw hK hc i pins s σ H E I hf st hg
  subst hP hw hK
  obtain ⟨xs,hq,hx⟩:=hg
  obtain ⟨its,rv,p,hz⟩:=I.tuple hq
  obtain ⟨f0,f1,f2,f3,f4,f5⟩:=hf it (by simp)
  have hl:=rv.length
  exact wpAny_pyNext_tuple_end (I.ok.hd (hc.trans hcb)) st (show s.heap.IsTuple a its.toArray from p) (by simp; omega) fun h' eb=>⟨rfl,I.turned (t':=s.toks) (fun b o hb e=>eb b o hb e) f0 f1 f3 f4 f5⟩
 self:=fun _ _ _ _ _ st h=>wpAny_pyIter_tupleiter st h
theorem Yba {cb:Bool} {P:Program} {w:World} {K:PySem.W.Frag} {tg:Expr} (it:Addr) (lo:Int) (n:Nat):Turn cb P w K tg (Itr lo n) [it] it (fun i h=>IsRangeIter h it (lo + (i:Nat) * 1) ((n:Int) - (i:Nat)) 1) where
 mem:=by simp
 obj:=fun i h st b hb=>by
  have e:b=it:=by simpa using hb
  subst e
  exact ⟨_,st,fun v z=>by
   have z':Data.fields _=Data.cell v:=z
   cases z'⟩
 keep:=fun i h h' st k=>k it (by simp) _ st
 item:=by
  intro X hP hw hK hc i pins s σ H E I hf st hg
  subst hP hw hK
  obtain ⟨f0,f1,f2,f3,f4,f5⟩:=hf it (by simp)
  refine wpAny_pyNext_range_item st (by have:i < n:=hg; omega) fun h' st' sb=>?_
  have I1:Inv X pins σ H { s with heap:=h',toks:=s.toks + 1 }:=I.turned (fun b o hb e=>(sb.2 b hb).trans e) f0 f1 f3 f4 f5
  have e1:lo + ((i + 1:Nat):Int) * 1=lo + (i:Int) * 1 + 1:=by push_cast; omega
  have e2:(n:Int) - ((i + 1:Nat):Int)=(n:Int) - (i:Int) - 1:=by push_cast; omega
  refine ⟨_,rfl,Vci (s:={ s with heap:=h',toks:=s.toks + 1 }) (n:="range_iterator") st' rfl rfl (by decide) ⟨.int (lo + i),H,I1,⟨s.toks,?_⟩,⟨rfl,rfl⟩,by rw [e1,e2]; exact st',fun b hb=>(hf b hb).1⟩⟩
  rw [Int.mul_one]
 done:=by
  intro X hP hw hK hc i pins s σ H E I hf st hg
  subst hP hw hK
  obtain ⟨f0,f1,f2,f3,f4,f5⟩:=hf it (by simp)
  exact Vba (I.hh.hds I.hok) st (by have:n<=i:=hg; omega) fun h' eb=>⟨rfl,I.turned (t':=s.toks) (fun b o hb e=>eb b o hb e) f0 f1 f3 f4 f5⟩
 self:=fun _ _ _ _ _ st h=>wpAny_pyIter_rangeiter st h
end L2
namespace L2
open PySem PySem.Spec PyProof.Rows
section
variable {X:Cx} {tg:Expr}
theorem Vb8 {pins:List (Addr×Obj)} {σ:St} {H:Hp} {s:Shared} {R:It->Hp->Prop} {E:Value->Shared->Prop} {lo hi:Int} {t u v:Tok} {tk:Nat} (I:Inv X pins σ H s) (h1 : -(2 ^ 62)<=lo) (h2:lo < 2 ^ 62) (h3 : -(2 ^ 62)<=hi) (h4:hi < 2 ^ 62)
  (q:R (Itr lo (hi - lo).toNat) H):wpAny (model X.prog X.w) X.A (pyIter (.ref s.heap.objs.size)) (PIE X pins σ tg R) E { s with heap:=s.heap.push { cls:=.type "range",data:=.fields #[.int lo t,.int hi u,.int 1 v] },toks:=tk }:=by
 refine wpAny_pyIter_range (IsRange.new ..) (small_one h1 h2 h3 h4) ?_
 have I1:Inv X pins σ H { s with heap:=s.heap.push { cls:=.type "range",data:=.fields #[.int lo t,.int hi u,.int 1 v] },toks:=tk }:=I.kept fun b o e=>Heap.get?_push_of_some _ e
 refine ⟨(s.heap.push { cls:=.type "range",data:=.fields #[.int lo t,.int hi u,.int 1 v] }).objs.size,[(s.heap.push { cls:=.type "range",data:=.fields #[.int lo t,.int hi u,.int 1 v] }).objs.size],_,_,H,rfl,
  I1.kept (t':=tk) fun b o e=>Heap.get?_push_of_some _ e,Yba _ lo (hi - lo).toNat,?_,fun b hb=>?_,q⟩
 ·have e1:lo + ((0:Nat):Int) * 1=lo:=by simp
  have e2:(((hi - lo).toNat:Nat):Int) - ((0:Nat):Int)=Builtin.Range.rangeSize lo hi 1:=by rw [rangeSize_one]; split <;> omega
  show IsRangeIter _ _ (lo + ((0:Nat):Int) * 1) ((((hi - lo).toNat:Nat):Int) - ((0:Nat):Int)) 1
  rw [e1,e2]
  exact Heap.get?_push_size _ rfl
 ·have e:b=(s.heap.push { cls:=.type "range",data:=.fields #[.int lo t,.int hi u,.int 1 v] }).objs.size:=by simpa using hb
  subst e
  exact I1.fpOk (Nat.le_refl _) (I1.hok.fresh (Nat.le_refl _))
noncomputable def iRng1 (ta:TA):TI:=fun σ H R=>ta σ H fun vs H1=>∃ j:Int,vs=[.int j]/\-(2 ^ 62)<=j/\j < 2 ^ 62/\R (Itr 0 j.toNat) H1
theorem Vbn {a:Expr} {ta:TA} {p pos:Pos} (hg:Gl X "range") (hm:X.mg "range" = none) (ha:PA X [a] ta) (hs:starEach [a] X.env=[(false,eval a X.env)]:=by rfl):PI X tg (.Call (.Name "range" p) [a] [] pos) (iRng1 ta):=by
 intro pins s σ H R I h
 refine Call_ (Vt I hg hm boot_range (PyProof.Rows.callWith_type1 (thn (ha pos pins s σ H _ I h) fun us s1 ⟨vs,H1,I1,r1,q1⟩=>?_) hs rfl))
 obtain ⟨j,e,q1,q2,q⟩:=q1
 subst e
 cases r1 with
 | cons r rr =>
  cases rr
  obtain ⟨t,rfl⟩:=r
  exact call_range_1 (Vb8 I1 (by omega) (by omega) q1 q2 (by simpa using q))
noncomputable def tFor (wi:TI) (g:TG) (tb:TS):TS:=fun D σ H=>wi σ H fun J H1=>∃ W:Nat->Nat->St->Hp->Prop,(∃ m,W 0 m σ H1)/\∀ i m σ H,W i m σ H ->
 (J.stop i H/\D.nx σ H)∨(J.go i H/\∃ N:St->Hp->Prop,(∀ σ' H',N σ' H'->∃ m',m' < m/\W (i + 1) m' σ' H')/\∀ x H',J.yld i H x H'->g x σ H' fun σ2 H2=>tb { D with nx:=N,ct:=N,bk:=D.nx } σ2 H2)
noncomputable def Xam (fp:List Addr) (h:Heap):List (Addr×Obj):=fp.filterMap fun b=>(h.get? b).map fun o=>(b,o)
theorem Wr {fp:List Addr} {h:Heap} {b:Addr} {o:Obj} (hb:b∈fp) (e:h.get? b=some o):(b,o)∈Xam fp h:=List.mem_filterMap.mpr ⟨b,hb,by rw [e]; rfl⟩
theorem Vbp {fp:List Addr} {h:Heap} {p:Addr×Obj} (hp:p∈Xam fp h):p.1∈fp/\h.get? p.1=some p.2:=by
 obtain ⟨b,hb,e⟩:=List.mem_filterMap.mp hp
 cases q:h.get? b with
 | none=>rw [q] at e; cases e
 | some o =>
  rw [q] at e
  have e':(b,o)=p:=Option.some.inj e
  subst e'
  exact ⟨hb,q⟩
theorem Inv.pinned {pins:List (Addr×Obj)} {σ:St} {H:Hp} {s:Shared} {fp:List Addr} (I:Inv X pins σ H s) (hf:∀ b∈fp,FpOk X pins H b) (ho:∀ b∈fp,∃ o,s.heap.get? b=some o/\∀ v,o.data≠.cell v):Inv X (pins ++ Xam fp s.heap) σ H s :=
 I.pins_of fun p hp=>(List.mem_append.mp hp).elim (fun z=>I.pin p (List.mem_append_right _ z)) fun z=>by
  obtain ⟨hb,e⟩:=Vbp z
  obtain ⟨f0,f1,f2,_⟩:=hf p.1 hb
  obtain ⟨o,e',d⟩:=ho p.1 hb
  rw [e] at e'; cases e'
  exact ⟨e,f0,f1,f2,d⟩
theorem Inv.unpinned {pins pl:List (Addr×Obj)} {σ:St} {H:Hp} {s:Shared} (I:Inv X (pins ++ pl) σ H s):Inv X pins σ H s:=I.pins_of fun p hp=>I.pin p (List.mem_append_right _ (List.mem_append_left _ hp))
theorem ps_for {iter:Expr} {body:List Stmt} {wi:TI} {g:TG} {tb:TS} {pos:Pos} (hp:PassesOwn (model X.prog X.w) X.A X.env X.xe) (hc:X.calm=true) (hi:PI X tg iter wi) (hg:PG X tg g) (hb:PSs X body tb)
  (hs:∀ x,foldedSetIterable iter X.env x=pure x:=by intro _; rfl):PS X (.For tg iter body [] pos) (tFor wi g tb):=by
 intro pins s σ H D I h
 refine wpAny_For (thn (hi pins s σ H _ I h) fun v s1 h1=>thn h1 fun itv s2 h2=>?_) hs
 obtain ⟨it,fp,tn,J,H2,e,I2,T,st2,f2,W,⟨m0,w0⟩,turn⟩:=h2
 subst e
 have stat:∀ {H':Hp},(∀ b∈fp,H' b=none)->∀ b∈fp,FpOk X pins H' b:=fun hn b hb=>⟨hn b hb,(f2 b hb).2⟩
 refine codeAny_forLoop_any (fun n s'=>∃ i σ' H',Inv X pins σ' H' s'/\tn i s'.heap/\(∀ b∈fp,H' b=none)/\W i n σ' H') ?_ m0 ⟨0,σ,H2,I2,st2,fun b hb=>(f2 b hb).1,w0⟩
 rintro n s3 ⟨i,σ3,H3,I3,st3,fr3,w3⟩
 rcases turn i n σ3 H3 w3 with ⟨stop,qn⟩ | ⟨go,N,hN,step⟩
 ·refine wpAny_passesOwn hp (thn (T.done X rfl rfl rfl rfl i pins s3 σ3 H3 X.xe I3 (stat fr3) st3 stop) fun r s4 ⟨hr,I4⟩=>?_)
  subst hr
  exact wpAny_execs_nil ⟨σ3,H3,I4,qn⟩
 ·refine wpAny_passesOwn hp (thn (T.item X rfl rfl rfl rfl i pins s3 σ3 H3 X.xe I3 (stat fr3) st3 go) fun r s4 ⟨u,hr,h4⟩=>?_)
  subst hr
  refine wpAny_passesOwn hp (thn h4 fun _ s5 ⟨x,H5,I5,r5,y5,st5,fr5⟩=>?_)
  have I5':=I5.pinned (stat fr5) (T.obj _ _ st5)
  refine wpAny_passesOwn hp (thn (hg _ s5 σ3 H5 x u _ I5' r5 (step x H5 y5)) fun _ s6 ⟨σ6,H6,I6,q6⟩=>?_)
  refine wpAny_passesOwn hp (thn (hb _ s6 σ6 H6 _ I6 q6) fun f s7 q7=>?_)
  have again:∀ {σ7:St} {H7:Hp},Inv X (pins ++ Xam fp s5.heap) σ7 H7 s7->N σ7 H7->∃ m,m < n/\∃ i σ' H',Inv X pins σ' H' s7/\tn i s7.heap/\(∀ b∈fp,H' b=none)/\W i m σ' H':=fun {σ7 H7} I7 n7=>by
   obtain ⟨m',hm,w7⟩:=hN σ7 H7 n7
   refine ⟨m',hm,i + 1,σ7,H7,I7.unpinned,T.keep _ _ _ st5 fun b hb o e=>(I7.pin (b,o) (List.mem_append_right _ (List.mem_append_right _ (Wr hb e)))).1,fun b hb=>?_,w7⟩
   obtain ⟨o,e,d⟩:=T.obj _ _ st5 b hb
   exact (I7.pin (b,o) (List.mem_append_right _ (List.mem_append_right _ (Wr hb e)))).2.1
  cases f with
  | next=>obtain ⟨σ7,H7,I7,n7⟩:=q7; exact again I7 n7
  | cont=>obtain ⟨σ7,H7,I7,n7⟩:=q7; exact again I7 n7
  | brk=>obtain ⟨σ7,H7,I7,q7⟩:=q7; exact ⟨σ7,H7,I7.unpinned,q7⟩
  | ret v=>obtain ⟨x7,σ7,H7,I7,r7,q7⟩:=q7; exact ⟨x7,σ7,H7,I7.unpinned,r7,q7⟩
end
end L2
namespace L2
open PySem PySem.Spec PyProof.Rows
noncomputable abbrev R2:=V->V->Hp->VK->Prop
noncomputable def OpR (X:Cx) (f:Value->Value->Sem Value) (r:R2):Prop :=
 ∀ (pins:List (Addr×Obj)) (s:Shared) (σ:St) (H:Hp) (x y:V) (v u:Value) (Q:VK),Inv X pins σ H s->RelV x v->RelV y u->r x y H Q ->
  wpAny (model X.prog X.w) X.A (f v u) (EP X pins σ Q) X.xe s
noncomputable def UnR (X:Cx) (f:Value->Sem Value) (r:V->Hp->VK->Prop):Prop :=
 ∀ (pins:List (Addr×Obj)) (s:Shared) (σ:St) (H:Hp) (x:V) (v:Value) (Q:VK),Inv X pins σ H s->RelV x v->r x H Q ->
  wpAny (model X.prog X.w) X.A (f v) (EP X pins σ Q) X.xe s
noncomputable def CallR (X:Cx) (f:Value) (r:List V->Hp->VK->Prop):Prop :=
 ∀ (pins:List (Addr×Obj)) (s:Shared) (σ:St) (H:Hp) (xs:List V) (us:List Value) (Q:VK),Inv X pins σ H s->Vals xs us->r xs H Q ->
  wpAny (model X.prog X.w) X.A (call f us) (EP X pins σ Q) X.xe s
noncomputable def TruR (X:Cx) (r:V->Hp->(Bool->Hp->Prop)->Prop):Prop :=
 ∀ (pins:List (Addr×Obj)) (s:Shared) (σ:St) (H:Hp) (x:V) (v:Value) (Q:Bool->Hp->Prop),Inv X pins σ H s->RelV x v->r x H Q ->
  wpAny (model X.prog X.w) X.A (truthy v) (TP X pins σ Q) X.xe s
noncomputable def tOp (r:R2) (ta tb:TE):TE:=fun σ H Q=>ta σ H fun x H1=>tb σ H1 fun y H2=>r x y H2 Q
noncomputable def tUn (r:V->Hp->VK->Prop) (ta:TE):TE:=fun σ H Q=>ta σ H fun x H1=>r x H1 Q
noncomputable def rI (C:Int->Int->Prop) (g:Int->Int->V):R2:=fun x y H Q=>∃ i j,x = .int i/\y = .int j/\C i j/\Q (g i j) H
noncomputable def rI0 (g:Int->Int->V):R2:=fun x y H Q=>∃ i j,x = .int i/\y = .int j/\Q (g i j) H
noncomputable def rU (g:Int->V):V->Hp->VK->Prop:=fun x H Q=>∃ i,x = .int i/\Q (g i) H
section
variable {X:Cx} {a b c:Expr} {ta tb tc:TE} {pos:Pos}
theorem binT (ha:PE X a ta) (hb:PE X b tb) {pins:List (Addr×Obj)} {s:Shared} {σ:St} {H:Hp} {R:V->V->Hp->Prop} (I:Inv X pins σ H s)
  (h:ta σ H fun x H1=>tb σ H1 fun y H2=>R x y H2) {Q:Value->Shared->Prop} {f:Value->Value->Sem Value}
  (hf:∀ v u s2 x y H2,Inv X pins σ H2 s2->RelV x v->RelV y u->R x y H2->wpAny (model X.prog X.w) X.A (f v u) Q X.xe s2) :
  wpAny (model X.prog X.w) X.A (eval a X.env) (fun v s₁=>wpAny (model X.prog X.w) X.A (eval b X.env) (fun u s₂=>wpAny (model X.prog X.w) X.A (f v u) Q X.xe s₂) X.xe s₁) X.xe s:=by
 refine thn (ha pins s σ H _ I h) fun v s1 ⟨x,H1,I1,r1,q1⟩=>?_
 refine thn (hb pins s1 σ H1 _ I1 q1) fun u s2 ⟨y,H2,I2,r2,q2⟩=>?_
 exact hf v u s2 x y H2 I2 r1 r2 q2
theorem Zcc {op:Operator} {r:R2} (ho:OpR X (binaryOp op) r) (ha:PE X a ta) (hb:PE X b tb):PE X (.BinOp a op b pos) (tOp r ta tb):=by
 intro pins s σ H Q I h
 exact wpAny_BinOp (binT ha hb I h fun v u s2 x y H2 I2 rx ry q=>ho pins s2 σ H2 x y v u Q I2 rx ry q)
theorem pe_un {op:UnaryOp} {r:V->Hp->VK->Prop} (ho:UnR X (unaryOp op) r) (ha:PE X a ta):PE X (.UnaryOp op a pos) (tUn r ta):=by
 intro pins s σ H Q I h
 exact UnaryOp_ (thn (ha pins s σ H _ I h) fun v s1 ⟨x,H1,I1,r1,q1⟩=>ho pins s1 σ H1 x v Q I1 r1 q1)
theorem opI {f:Value->Value->Sem Value} {C:Int->Int->Prop} {g:Int->Int->Int}
  (rule:∀ (i j:Int) (t u:Tok) (s:Shared) (Q:Value->Shared->Prop) (E:Value->Shared->Prop),C i j->Q (.int (g i j) s.toks) { s with toks:=s.toks + 1 }->wpAny (model X.prog X.w) X.A (f (.int i t) (.int j u)) Q E s) :
  OpR X f (rI C fun i j=>.int (g i j)):=by
 intro pins s σ H x y v u Q I rx ry h
 obtain ⟨i,j,rfl,rfl,hc,q⟩:=h
 obtain ⟨t,rfl⟩:=rx
 obtain ⟨t',rfl⟩:=ry
 exact rule i j t t' s _ _ hc ⟨.int (g i j),H,I.tok _,⟨_,rfl⟩,q⟩
theorem opI0 {f:Value->Value->Sem Value} {g:Int->Int->Int}
  (rule:∀ (i j:Int) (t u:Tok) (s:Shared) (Q:Value->Shared->Prop) (E:Value->Shared->Prop),Q (.int (g i j) s.toks) { s with toks:=s.toks + 1 }->wpAny (model X.prog X.w) X.A (f (.int i t) (.int j u)) Q E s) :
  OpR X f (rI0 fun i j=>.int (g i j)):=by
 intro pins s σ H x y v u Q I rx ry h
 obtain ⟨i,j,rfl,rfl,q⟩:=h
 obtain ⟨t,rfl⟩:=rx
 obtain ⟨t',rfl⟩:=ry
 exact rule i j t t' s _ _ ⟨.int (g i j),H,I.tok _,⟨_,rfl⟩,q⟩
theorem opB0 {f:Value->Value->Sem Value} {g:Int->Int->Bool}
  (rule:∀ (i j:Int) (t u:Tok) (s:Shared) (Q:Value->Shared->Prop) (E:Value->Shared->Prop),Q (.bool (g i j)) s->wpAny (model X.prog X.w) X.A (f (.int i t) (.int j u)) Q E s) :
  OpR X f (rI0 fun i j=>.bl (g i j)):=by
 intro pins s σ H x y v u Q I rx ry h
 obtain ⟨i,j,rfl,rfl,q⟩:=h
 obtain ⟨t,rfl⟩:=rx
 obtain ⟨t',rfl⟩:=ry
 exact rule i j t t' s _ _ ⟨.bl (g i j),H,I,rfl,q⟩
noncomputable def CPow (i j:Int):Prop:=0<=j/\j<=1000000/\i.natAbs < 2 ^ 64
noncomputable def CMul (i j:Int):Prop:=(-(2 ^ 64) < i/\i < 2 ^ 64)∨(-(2 ^ 64) < j/\j < 2 ^ 64)
theorem CMul.ok {i j:Int} (h:CMul i j):IntMulOk i j:=by
 rcases h with ⟨h1,h2⟩ | ⟨h1,h2⟩
 ·exact .of_left (intBits_le_64 h1 h2)
 ·exact .of_right (intBits_le_64 h1 h2)
theorem op_add:OpR X (binaryOp .Add) (rI0 fun i j=>.int (i + j)):=opI0 fun _ _ _ _ _ _ _ q=>add_int q
theorem op_sub:OpR X (binaryOp .Sub) (rI0 fun i j=>.int (i - j)):=opI0 fun _ _ _ _ _ _ _ q=>sub_int q
theorem op_mul:OpR X (binaryOp .Mult) (rI CMul fun i j=>.int (i * j)):=opI fun _ _ _ _ _ _ _ hc q=>mul_int q hc.ok
theorem op_mod:OpR X (binaryOp .Mod) (rI (fun _ j=>0 < j) fun i j=>.int (i % j)):=opI fun i j _ _ _ _ _ hc q=>by
 have h1:(0:Int) < j:=hc
 exact mod_int' (by omega) (by rw [Int.fmod_eq_emod_of_nonneg i (by omega)]; exact q)
theorem op_pow:OpR X (binaryOp .Pow) (rI CPow fun i j=>.int (i ^ j.toNat)):=opI fun _ _ _ _ _ _ _ hc q=>pow_int_small hc.1 hc.2.1 hc.2.2 q
theorem unI {f:Value->Sem Value} {g:Int->Int}
  (rule:∀ (i:Int) (t:Tok) (s:Shared) (Q:Value->Shared->Prop) (E:Value->Shared->Prop),Q (.int (g i) s.toks) { s with toks:=s.toks + 1 }->wpAny (model X.prog X.w) X.A (f (.int i t)) Q E s) :
  UnR X f (rU fun i=>.int (g i)):=by
 intro pins s σ H x v Q I rx h
 obtain ⟨i,rfl,q⟩:=h
 obtain ⟨t,rfl⟩:=rx
 exact rule i t s _ _ ⟨.int (g i),H,I.tok _,⟨_,rfl⟩,q⟩
theorem un_neg:UnR X (unaryOp .USub) (rU fun i=>.int (-i)):=unI fun _ _ _ _ _ q=>neg_int q
end
noncomputable def scal:V->V->Bool
 | .non,.non=>true | .non,.int _=>true | .int _,.non=>true | .non,.bl _=>true | .bl _,.non=>true | .non,.str _=>true | .str _,.non=>true
 | .int _,.int _=>true | .bl _,.bl _=>true | .str _,.str _=>true | .byt _,.byt _=>true
 | .int _,.str _=>true | .str _,.int _=>true | .bl _,.str _=>true | .str _,.bl _=>true
 | _,_=>false
noncomputable def rEq:R2:=fun x y H Q=>scal x y=true/\Q (.bl (decide (x=y))) H
noncomputable def rNe:R2:=fun x y H Q=>scal x y=true/\Q (.bl (!decide (x=y))) H
theorem Xby {i j:Int}:decide (V.int i=V.int j)=(i == j):=by
 rw [Bool.eq_iff_iff]
 simp
theorem dec_bl {i j:Bool}:decide (V.bl i=V.bl j)=(i == j):=by
 rw [Bool.eq_iff_iff]
 simp
theorem Yby {i j:Str}:decide (V.str i=V.str j)=(i == j):=by
 rw [Bool.eq_iff_iff]
 simp
theorem Wby {i j:Array UInt8}:decide (V.byt i=V.byt j)=(i.toList == j.toList):=by
 rw [Bool.eq_iff_iff]
 cases i
 cases j
 simp
section
variable {X:Cx} {a b c:Expr} {ta tb tc:TE} {pos:Pos}
theorem Vc {pins:List (Addr×Obj)} {σ:St} {H:Hp} {s:Shared} {Q:VK} {k k':Bool} (I:Inv X pins σ H s) (q:Q (.bl k) H) (e:k=k'):EP X pins σ Q (.bool k') s:=by
 subst e
 exact ⟨.bl k,H,I,rfl,q⟩
theorem Xce:OpR X (compareOp .Eq) rEq:=by
 intro pins s σ H x y v u Q I rx ry h
 obtain ⟨hs,q⟩:=h
 cases x with
 | non =>
  cases rx
  cases y with
  | non=>cases ry; exact PySem.EqNone.eq_none_none (Vc I q (by simp))
  | bl j=>cases ry; exact PySem.EqNone.eq_none_bool (Vc I q (by simp))
  | int j=>obtain ⟨t',rfl⟩:=ry; exact PySem.EqNone.eq_none_int (Vc I q (by simp))
  | str j=>obtain ⟨t',rfl⟩:=ry; exact PySem.EqNone.eq_none_str (Vc I q (by simp))
  | _=>exact absurd (show false=true from hs) Bool.false_ne_true
 | bl i =>
  cases rx
  cases y with
  | non=>cases ry; exact PySem.EqNone.eq_bool_none (Vc I q (by simp))
  | bl j=>cases ry; exact eq_bool (Vc I q dec_bl)
  | str j=>obtain ⟨t',rfl⟩:=ry; exact PySem.EqMixed.eq_bool_str (Vc I q (by simp))
  | _=>exact absurd (show false=true from hs) Bool.false_ne_true
 | int i =>
  obtain ⟨t,rfl⟩:=rx
  cases y with
  | non=>cases ry; exact PySem.EqNone.eq_int_none (Vc I q (by simp))
  | int j=>obtain ⟨t',rfl⟩:=ry; exact eq_int (Vc I q Xby)
  | str j=>obtain ⟨t',rfl⟩:=ry; exact PySem.EqMixed.eq_int_str (Vc I q (by simp))
  | _=>exact absurd (show false=true from hs) Bool.false_ne_true
 | str i =>
  obtain ⟨t,rfl⟩:=rx
  cases y with
  | non=>cases ry; exact PySem.EqNone.eq_str_none (Vc I q (by simp))
  | bl j=>cases ry; exact PySem.EqMixed.eq_str_bool (Vc I q (by simp))
  | int j=>obtain ⟨t',rfl⟩:=ry; exact PySem.EqMixed.eq_str_int (Vc I q (by simp))
  | str j=>obtain ⟨t',rfl⟩:=ry; exact eq_str (Vc I q Yby)
  | _=>exact absurd (show false=true from hs) Bool.false_ne_true
 | byt i =>
  obtain ⟨t,rfl⟩:=rx
  cases y with
  | byt j=>obtain ⟨t',rfl⟩:=ry; exact PySem.W.eq_bytes (Vc I q Wby)
  | _=>exact absurd (show false=true from hs) Bool.false_ne_true
 | _=>cases y <;> exact absurd (show false=true from hs) Bool.false_ne_true
theorem Zce:OpR X (compareOp .NotEq) rNe:=by
 intro pins s σ H x y v u Q I rx ry h
 obtain ⟨hs,q⟩:=h
 cases x with
 | non =>
  cases rx
  cases y with
  | non=>cases ry; exact PySem.EqNone.ne_none_none (Vc I q (by simp))
  | bl j=>cases ry; exact PySem.EqNone.ne_none_bool (Vc I q (by simp))
  | int j=>obtain ⟨t',rfl⟩:=ry; exact PySem.EqNone.ne_none_int (Vc I q (by simp))
  | str j=>obtain ⟨t',rfl⟩:=ry; exact PySem.EqNone.ne_none_str (Vc I q (by simp))
  | _=>exact absurd (show false=true from hs) Bool.false_ne_true
 | bl i =>
  cases rx
  cases y with
  | non=>cases ry; exact PySem.EqNone.ne_bool_none (Vc I q (by simp))
  | bl j=>cases ry; exact ne_bool (Vc I q (congrArg not dec_bl))
  | str j=>obtain ⟨t',rfl⟩:=ry; exact PySem.EqMixed.ne_bool_str (Vc I q (by simp))
  | _=>exact absurd (show false=true from hs) Bool.false_ne_true
 | int i =>
  obtain ⟨t,rfl⟩:=rx
  cases y with
  | non=>cases ry; exact PySem.EqNone.ne_int_none (Vc I q (by simp))
  | int j=>obtain ⟨t',rfl⟩:=ry; exact ne_int (Vc I q (congrArg not Xby))
  | str j=>obtain ⟨t',rfl⟩:=ry; exact PySem.EqMixed.ne_int_str (Vc I q (by simp))
  | _=>exact absurd (show false=true from hs) Bool.false_ne_true
 | str i =>
  obtain ⟨t,rfl⟩:=rx
  cases y with
  | non=>cases ry; exact PySem.EqNone.ne_str_none (Vc I q (by simp))
  | bl j=>cases ry; exact PySem.EqMixed.ne_str_bool (Vc I q (by simp))
  | int j=>obtain ⟨t',rfl⟩:=ry; exact PySem.EqMixed.ne_str_int (Vc I q (by simp))
  | str j=>obtain ⟨t',rfl⟩:=ry; exact ne_str (Vc I q (congrArg not Yby))
  | _=>exact absurd (show false=true from hs) Bool.false_ne_true
 | byt i =>
  obtain ⟨t,rfl⟩:=rx
  cases y with
  | byt j=>obtain ⟨t',rfl⟩:=ry; exact PySem.W.ne_bytes (Vc I q (congrArg not Wby))
  | _=>exact absurd (show false=true from hs) Bool.false_ne_true
 | _=>cases y <;> exact absurd (show false=true from hs) Bool.false_ne_true
theorem op_lt:OpR X (compareOp .Lt) (rI0 fun i j=>.bl (decide (i < j))):=opB0 fun _ _ _ _ _ _ _ q=>lt_int q
theorem op_le:OpR X (compareOp .LtE) (rI0 fun i j=>.bl (decide (i<=j))):=opB0 fun _ _ _ _ _ _ _ q=>le_int q
theorem op_gt:OpR X (compareOp .Gt) (rI0 fun i j=>.bl (decide (j < i))):=opB0 fun _ _ _ _ _ _ _ q=>gt_int q
theorem op_ge:OpR X (compareOp .GtE) (rI0 fun i j=>.bl (decide (j<=i))):=opB0 fun _ _ _ _ _ _ _ q=>ge_int q
theorem Ybp:OpR X (compareOp .Lt) (fun x y H Q=>∃ i j,x = .str i/\y = .str j/\Q (.bl (decide (i.cps.toList < j.cps.toList))) H):=by
 intro pins s σ H x y v u Q I rx ry h
 obtain ⟨i,j,rfl,rfl,q⟩:=h
 obtain ⟨t,rfl⟩:=rx
 obtain ⟨t',rfl⟩:=ry
 exact lt_str (Vc I q rfl)
theorem Xbp:OpR X (compareOp .In) (fun x y H Q=>∃ i j,x = .str i/\y = .str j/\Q (.bl (!(Builtin.Str.occurrences j i 0 j.length 1).isEmpty)) H):=by
 intro pins s σ H x y v u Q I rx ry h
 obtain ⟨i,j,rfl,rfl,q⟩:=h
 obtain ⟨t,rfl⟩:=rx
 obtain ⟨t',rfl⟩:=ry
 exact in_str (Vc I q rfl)
theorem op_isN:OpR X (compareOp .Is) (fun x y H Q=>y = .non/\Q (.bl (decide (x = .non))) H):=by
 intro pins s σ H x y v u Q I rx ry h
 obtain ⟨rfl,q⟩:=h
 cases ry
 refine is_none_gen (Vc I q ?_)
 cases x <;> first
  | (cases rx; rfl)
  | (obtain ⟨t,rfl⟩:=rx; rfl)
theorem op_notN:OpR X (compareOp .IsNot) (fun x y H Q=>y = .non/\Q (.bl (!decide (x = .non))) H):=by
 intro pins s σ H x y v u Q I rx ry h
 obtain ⟨rfl,q⟩:=h
 cases ry
 refine isnot_none_gen (Vc I q ?_)
 cases x <;> first
  | (cases rx; rfl)
  | (obtain ⟨t,rfl⟩:=rx; rfl)
theorem Zan:OpR X (compareOp .NotIn) (fun x y H Q=>∃ i j,x = .str i/\y = .str j/\Q (.bl (!(!(Builtin.Str.occurrences j i 0 j.length 1).isEmpty))) H):=by
 intro pins s σ H x y v u Q I rx ry h
 obtain ⟨i,j,rfl,rfl,q⟩:=h
 obtain ⟨t,rfl⟩:=rx
 obtain ⟨t',rfl⟩:=ry
 exact notIn_str (Vc I q rfl)
theorem OpR.or {f:Value->Value->Sem Value} {r r':R2} (h:OpR X f r) (h':OpR X f r'):OpR X f (fun x y H Q=>r x y H Q∨r' x y H Q):=by
 intro pins s σ H x y v u Q I rx ry q
 rcases q with q | q
 ·exact h pins s σ H x y v u Q I rx ry q
 ·exact h' pins s σ H x y v u Q I rx ry q
theorem nomark (b:Expr) {op:CmpOp} (h:op≠.In:=by decide) (h2:op≠.NotIn:=by decide):behindInMarks op b=false:=by
 have e1:(op == CmpOp.In)=false:=by cases op <;> first | rfl | exact absurd rfl h
 have e2:(op == CmpOp.NotIn)=false:=by cases op <;> first | rfl | exact absurd rfl h2
 cases b <;> simp [behindInMarks,e1,e2]
theorem Yau {op:CmpOp} {r:R2} (ho:OpR X (compareOp op) r) (ha:PE X a ta) (hb:PE X b tb) (hm:behindInMarks op b=false):PE X (.Compare a [op] [b] pos) (tOp r ta tb):=by
 intro pins s σ H Q I h
 exact wpAny_Compare1 (binT ha hb I h fun v u s2 x y H2 I2 rx ry q=>ho pins s2 σ H2 x y v u Q I2 rx ry q) hm
noncomputable def Xb7 (t:TE):TT:=fun σ H Q=>t σ H fun x H'=>∃ k,x = .bl k/\Q k H'
theorem Zau {op:CmpOp} {r:R2} (ho:OpR X (compareOp op) r) (ha:PE X a ta) (hb:PE X b tb) (hm:behindInMarks op b=false):PT X (.Compare a [op] [b] pos) (Xb7 (tOp r ta tb)):=by
 intro pins s σ H Q I h
 refine wpAny_isTrue_Compare1 (thn (ha pins s σ H _ I h) fun v s1 ⟨x,H1,I1,r1,q1⟩=>thn (hb pins s1 σ H1 _ I1 q1) fun u s2 ⟨y,H2,I2,r2,q2⟩ =>
  thn (ho pins s2 σ H2 x y v u _ I2 r1 r2 q2) fun c s3 ⟨z,H3,I3,r3,k,e,q3⟩=>?_) hm
 subst e
 cases r3
 exact wpAny_truthy_bool ⟨H3,I3,q3⟩
noncomputable def Wa2 (r r':R2) (ta tb tc:TE):TE:=fun σ H Q=>ta σ H fun x H1=>tb σ H1 fun y H2=>r x y H2 fun z H3=>∃ k,z = .bl k /\
 (if k=true then tc σ H3 fun w' H4=>r' y w' H4 Q else Q (.bl false) H3)
theorem Ycd {op op':CmpOp} {r r':R2} (ho:OpR X (compareOp op) r) (ho':OpR X (compareOp op') r') (ha:PE X a ta) (hb:PE X b tb) (hc:PE X c tc)
  (hm:lastMarks [op,op'] [b,c]=false:=by with_unfolding_all rfl):PE X (.Compare a [op,op'] [b,c] pos) (Wa2 r r' ta tb tc):=by
 intro pins s σ H Q I h
 refine Compare_chain (thn (ha pins s σ H _ I h) fun v s1 ⟨x,H1,I1,r1,q1⟩=>chain_link (thn (hb pins s1 σ H1 _ I1 q1) fun u s2 ⟨y,H2,I2,r2,q2⟩ =>
  thn (ho pins s2 σ H2 x y v u _ I2 r1 r2 q2) fun d s3 ⟨z,H3,I3,r3,k,e,q3⟩=>?_)) hm
 subst e
 cases r3
 refine wpAny_truthy_bool ?_
 cases k with
 | false=>exact ite_ff ⟨.bl false,H3,I3,rfl,q3⟩
 | true=>exact ite_tt (chain_last (thn (hc pins s3 σ H3 _ I3 q3) fun w' s4 ⟨z',H4,I4,r4,q4⟩=>ho' pins s4 σ H4 y z' u w' Q I4 r2 r4 q4))
theorem Xb9 {op op':CmpOp} {r r':R2} (ho:OpR X (compareOp op) r) (ho':OpR X (compareOp op') r') (ha:PE X a ta) (hb:PE X b tb) (hc:PE X c tc)
  (hm:lastMarks [op,op'] [b,c]=false:=by with_unfolding_all rfl):PT X (.Compare a [op,op'] [b,c] pos) (Xb7 (Wa2 r r' ta tb tc)):=by
 intro pins s σ H Q I h
 refine isTrue_chain (thn (ha pins s σ H _ I h) fun v s1 ⟨x,H1,I1,r1,q1⟩=>test_link (thn (hb pins s1 σ H1 _ I1 q1) fun u s2 ⟨y,H2,I2,r2,q2⟩ =>
  thn (ho pins s2 σ H2 x y v u _ I2 r1 r2 q2) fun d s3 ⟨z,H3,I3,r3,k,e,q3⟩=>?_)) hm
 subst e
 cases r3
 refine wpAny_truthy_bool ?_
 cases k with
 | false =>
  obtain ⟨k',e',q'⟩:=q3
  cases e'
  exact ite_ff ⟨H3,I3,q'⟩
 | true =>
  refine ite_tt (test_last (thn (hc pins s3 σ H3 _ I3 q3) fun w' s4 ⟨z',H4,I4,r4,q4⟩=>thn (ho' pins s4 σ H4 y z' u w' _ I4 r2 r4 q4) fun d' s5 ⟨z2,H5,I5,r5,k2,e2,q5⟩=>?_))
  subst e2
  cases r5
  exact wpAny_truthy_bool ⟨H5,I5,q5⟩
noncomputable def TruV (K:PySem.W.Frag) (x:V) (H:Hp) (k:Bool):Prop :=
 match x with
 | .non=>k=false
 | .bl b=>k=b
 | .int i=>k=(i != 0)
 | .str y=>y.length<=sizeLine/\k=((y.length:Int) != 0)
 | .byt y=>y.size<=sizeLine/\k=((y.size:Int) != 0)
 | .ref p=>(∃ xs,SqL K H p xs/\k = !xs.isEmpty)∨(∃ xs,SqT K H p xs/\k = !xs.isEmpty)∨∃ kvs,H p=some (.dK kvs)/\k = !kvs.isEmpty
 | _=>False
theorem Zbe {κ:Type} {kvs:List (κ×V)} {vs:List (κ×Value)} (r:KV kvs vs):(!vs.isEmpty) = !kvs.isEmpty:=by
 cases r <;> rfl
theorem Vad {xs:List V} {its:List Value} (r:Vals xs its):(!its.toArray.isEmpty) = !xs.isEmpty:=by
 cases r <;> simp
theorem Wad:(sizeLine:Nat) < 2 ^ 63:=by rw [sizeLine_eq]; decide
theorem tru_ok:TruR X (fun x H Q=>∃ k,TruV X.K x H k/\Q k H):=by
 intro pins s σ H x v Q I rx h
 obtain ⟨k,e,q⟩:=h
 have hl:=Wad
 have hs:sizeLine=16777216:=sizeLine_eq
 cases x with
 | non =>
  cases rx
  have e':k=false:=e
  subst e'
  exact truthy_none ⟨H,I,q⟩
 | bl b =>
  cases rx
  have e':k=b:=e
  subst e'
  exact wpAny_truthy_bool ⟨H,I,q⟩
 | int i =>
  obtain ⟨t,rfl⟩:=rx
  have e':k=(i != 0):=e
  subst e'
  exact PySem.P.truthy_int ⟨H,I,q⟩
 | str y =>
  obtain ⟨t,rfl⟩:=rx
  obtain ⟨hy,e'⟩:y.length<=sizeLine/\k=((y.length:Int) != 0):=e
  subst e'
  exact PySem.P.truthy_str (by omega) ⟨H,I.tok _,q⟩
 | byt y =>
  obtain ⟨t,rfl⟩:=rx
  obtain ⟨hy,e'⟩:y.size<=sizeLine/\k=((y.size:Int) != 0):=e
  subst e'
  exact PySem.W.truthy_bytes (by omega) ⟨H,I.tok _,q⟩
 | ref p =>
  cases rx
  have e':(∃ xs,SqL X.K H p xs/\k = !xs.isEmpty)∨(∃ xs,SqT X.K H p xs/\k = !xs.isEmpty)∨∃ kvs,H p=some (.dK kvs)/\k = !kvs.isEmpty:=e
  rcases e' with ⟨xs,hx,e'⟩ | ⟨xs,hx,e'⟩ | ⟨kvs,hx,e'⟩
  ·subst e'
   obtain ⟨its,r,pl,hz⟩:=I.list hx
   have hlen:=r.length
   exact wpAny_truthy_list pl.isList (by simp only [List.size_toArray]; omega) ⟨H,I.tok _,by rw [Vad r]; exact q⟩
  ·subst e'
   obtain ⟨its,r,pl,hz⟩:=I.tuple hx
   have hlen:=r.length
   exact truthy_tuple pl (by simp only [List.size_toArray]; omega) ⟨H,I.tok _,by rw [Vad r]; exact q⟩
  ·subst e'
   obtain ⟨hz,hS,vs,r,m⟩:kvs.length<=sizeLine/\(p == sysModules)=false/\∃ vs,KV kvs vs/\s.heap.DictOf (Xe X.prog X.w) p vs:=I.hok p _ hx
   have hlen:kvs.length=vs.length:=Paired.length r
   exact wpAny_truthy_dict hS m (by omega) ⟨H,I.tok _,by rw [Zbe r]; exact q⟩
 | _=>exact (show False from e).elim
theorem Yb9 (ha:PE X a ta) (he:∀ whole,isTrue a X.env whole=(do let v <- whole; standAt a.pos; holding [v] (truthy v))) :
  PT X a (fun σ H Q=>ta σ H fun x H'=>∃ k,TruV X.K x H' k/\Q k H'):=by
 intro pins s σ H Q I h
 exact isTrue_plain (thn (ha pins s σ H _ I h) fun v s1 ⟨x,H1,I1,r1,q1⟩=>tru_ok pins s1 σ H1 x v Q I1 r1 q1) (he _)
theorem Zbc:OpR X (binaryOp .Add) (fun x y H Q=>∃ i j,x = .str i/\y = .str j/\i.length + j.length<=sizeLine/\Q (.str (i ++ j)) H):=by
 intro pins s σ H x y v u Q I rx ry h
 obtain ⟨i,j,rfl,rfl,hz,q⟩:=h
 obtain ⟨t,rfl⟩:=rx
 obtain ⟨t',rfl⟩:=ry
 exact add_str (fun t' tk=>⟨.str (i ++ j),H,I.tok _,⟨_,rfl⟩,q⟩) hz
theorem vals1 {x:V} {us:List Value} (r:Vals [x] us):∃ u,us=[u]/\RelV x u:=by
 cases r with
 | cons r1 r2=>cases r2; exact ⟨_,rfl,r1⟩
theorem vals2 {x y:V} {us:List Value} (r:Vals [x,y] us):∃ u w',us=[u,w']/\RelV x u/\RelV y w':=by
 cases r with
 | cons r1 r2 =>
  cases r2 with
  | cons r3 r4=>cases r4; exact ⟨_,_,rfl,r1,r3⟩
theorem Yck:CallR X (.builtin "abs") (fun xs H Q=>∃ i,xs=[.int i]/\Q (.int (if i < 0 then -i else i)) H):=by
 intro pins s σ H xs us Q I r h
 obtain ⟨i,rfl,q⟩:=h
 obtain ⟨u,rfl,t,rfl⟩:=vals1 r
 exact call_abs_int fun u tk=>⟨.int (if i < 0 then -i else i),H,I.tok _,⟨_,rfl⟩,q⟩
theorem Vb0 (hc:X.calm=true):CallR X (.builtin "max") (fun xs H Q=>∃ i j,xs=[.int i,.int j]/\Q (.int (if j > i then j else i)) H):=by
 intro pins s σ H xs us Q I r h
 obtain ⟨i,j,rfl,q⟩:=h
 obtain ⟨u,w',rfl,⟨t,rfl⟩,⟨t',rfl⟩⟩:=vals2 r
 refine max_two_ints (I.ok.hd hc) fun h' tk k=>⟨_,H,I.kept k,?_,q⟩
 by_cases hj:j > i
 ·rw [if_pos hj,if_pos hj]; exact ⟨_,rfl⟩
 ·rw [if_neg hj,if_neg hj]; exact ⟨_,rfl⟩
theorem Xb0 (hc:X.calm=true):CallR X (.builtin "min") (fun xs H Q=>∃ i j,xs=[.int i,.int j]/\Q (.int (if j < i then j else i)) H):=by
 intro pins s σ H xs us Q I r h
 obtain ⟨i,j,rfl,q⟩:=h
 obtain ⟨u,w',rfl,⟨t,rfl⟩,⟨t',rfl⟩⟩:=vals2 r
 refine min_two_ints (I.ok.hd hc) fun h' tk k=>⟨_,H,I.kept k,?_,q⟩
 by_cases hj:j < i
 ·rw [if_pos hj,if_pos hj]; exact ⟨_,rfl⟩
 ·rw [if_neg hj,if_neg hj]; exact ⟨_,rfl⟩
theorem Yaq:CallR X (.type "int") (fun xs H Q=>(∃ i,xs=[.int i]/\Q (.int i) H)∨∃ k,xs=[.bl k]/\Q (.int (if k then 1 else 0)) H):=by
 intro pins s σ H xs us Q I r h
 rcases h with ⟨i,rfl,q⟩ | ⟨k,rfl,q⟩
 ·obtain ⟨u,rfl,t,rfl⟩:=vals1 r
  exact call_int_int ⟨.int i,H,I,⟨_,rfl⟩,q⟩
 ·obtain ⟨u,rfl,r1⟩:=vals1 r
  cases r1
  exact call_int_bool ⟨.int (if k then 1 else 0),H,I.tok _,⟨_,rfl⟩,q⟩
noncomputable def LenV (K:PySem.W.Frag) (x:V) (H:Hp) (n:Nat):Prop :=
 match x with
 | .str y=>y.length<=sizeLine/\n=y.length
 | .byt y=>y.size<=sizeLine/\n=y.size
 | .ref p=>(∃ xs,SqL K H p xs/\n=xs.length)∨∃ xs,SqT K H p xs/\n=xs.length
 | _=>False
theorem Zck:CallR X (.builtin "len") (fun xs H Q=>∃ x n,xs=[x]/\LenV X.K x H n/\Q (.int n) H):=by
 intro pins s σ H xs us Q I r h
 obtain ⟨x,n,rfl,e,q⟩:=h
 obtain ⟨u,rfl,rx⟩:=vals1 r
 have hl:=Wad
 have hs:sizeLine=16777216:=sizeLine_eq
 cases x with
 | str y =>
  obtain ⟨t,rfl⟩:=rx
  obtain ⟨hy,e'⟩:y.length<=sizeLine/\n=y.length:=e
  subst e'
  exact len_str (by omega) ⟨.int _,H,I.tok _,⟨_,rfl⟩,q⟩
 | byt y =>
  obtain ⟨t,rfl⟩:=rx
  obtain ⟨hy,e'⟩:y.size<=sizeLine/\n=y.size:=e
  subst e'
  exact PySem.W.len_bytes (by omega) ⟨.int _,H,I.tok _,⟨_,rfl⟩,q⟩
 | ref p =>
  cases rx
  have e':(∃ xs,SqL X.K H p xs/\n=xs.length)∨∃ xs,SqT X.K H p xs/\n=xs.length:=e
  rcases e' with ⟨xs,hx,e'⟩ | ⟨xs,hx,e'⟩
  ·subst e'
   obtain ⟨its,r',pl,hz⟩:=I.list hx
   have hlen:=r'.length
   exact Calls.call_len_list pl.isList (by simp only [List.size_toArray]; omega) ⟨.int xs.length,H,I.tok _,⟨_,by simp only [List.size_toArray]; rw [hlen]⟩,q⟩
  ·subst e'
   obtain ⟨its,r',pl,hz⟩:=I.tuple hx
   have hlen:=r'.length
   exact len_tuple pl (by simp only [List.size_toArray]; omega) ⟨.int xs.length,H,I.tok _,⟨_,by simp only [List.size_toArray]; rw [hlen]⟩,q⟩
 | _=>exact (show False from e).elim
end
end L2
namespace L2
open PySem PySem.Spec PyProof.Rows
structure ObjM (h:Heap) (x dx C:Addr) (mA:Str->Option Value):Prop where
 obj:h.get? x=some (PySem.W.instObj C dx)
 ns:h.Ns1 dx mA
 ne:dx≠x
theorem Ybr {h:Heap} {dx:Addr} {mA:Str->Option Value} (n:h.Ns1 dx mA):∃ od,h.get? dx=some od/\∀ name,PySem.W.lookIn name od=some (mA name):=by
 obtain ⟨o,es,ep,ho,hd,hk,_,hm⟩:=n
 refine ⟨o,ho,fun name=>?_⟩
 have e:=hm name
 unfold nsFind findBy at e
 rw [<- Array.find?_toList] at e
 unfold PySem.W.lookIn
 rw [hd]
 dsimp only
 split
 ·rename_i y q
  rw [q] at e
  exact congrArg some e
 ·rename_i q
  rw [q] at e
  have a:es.toList.any (·.refKey)=false:=by
   rw [List.any_eq_false]
   intro y hy
   obtain ⟨z,t,hkey⟩:=hk y (Array.mem_toList_iff.mp hy)
   simp [DictEntry.refKey,hkey]
  have a':¬ es.toList.any (·.refKey)=true:=by rw [a]; exact Bool.false_ne_true
  rw [if_neg a']
  exact congrArg some e
theorem ObjM.look {h:Heap} {x dx C:Addr} {mA:Str->Option Value} (I:ObjM h x dx C mA):∃ od,PySem.W.InstAt h x (PySem.W.instObj C dx) C (some od)/\∀ name,PySem.W.lookIn name od=some (mA name) :=
 let ⟨od,ho,hl⟩:=Ybr I.ns
 ⟨od,⟨I.obj,rfl,rfl,ho⟩,hl⟩
section
variable {prog:Program} {w:World} {A:Around} {E:Value->Shared->Prop} {s:Shared} {K:PySem.W.Frag} {x dx C f:Addr} {mA:Str->Option Value} {name:Str} {v:Value}
end
theorem RelO.some_of {v:V} {o:Option Value} (r:RelO (some v) o):∃ u,o=some u/\RelV v u:=by
 cases o with
 | none=>exact (show False from r).elim
 | some u=>exact ⟨u,rfl,r⟩
section
variable {P:Program} {w:World} {H H':Hp} {h h':Heap} {a C dx:Addr} {fs fs':List (Str×V)}
theorem ins_get (hok:HOk P w H h) (e:H a=some (.ins C dx fs)):∃ mA,ObjM h a dx C mA/\(∀ f,RelO (fs.lookup f) (mA f))/\PySem.Within mA (fs.map (·.1))/\fs.length<=1000/\H dx=some (.own a):=by
 obtain ⟨d,z,ne,ob,mA,n,r,q⟩:=(show ObjOk P w H h a (.ins C dx fs) from hok a _ e)
 exact ⟨mA,⟨ob,n,ne⟩,r,q,z,d⟩
end
structure Cls (K:PySem.W.Frag) (C:Addr):Prop where
 pg:PySem.W.plainGet K C Str.empty=true
 hd:PySem.W.hasDictIn K C=true
 po:PySem.W.plainOver K C=true
 sa:PySem.W.findIn K (.ref C) "__setattr__" = some (some (.builtin "object.__setattr__"))
theorem Cls.get {K:PySem.W.Frag} {C:Addr} (c:Cls K C) (f:Str):PySem.W.plainGet K C f=true:=c.pg
noncomputable def Yas (K:PySem.W.Frag) (C:Addr) (f:Str):Prop:=PySem.W.findIn K (.ref C) f=some none
structure Meth (K:PySem.W.Frag) (C:Addr) (m:Str) (f:Addr):Prop where
 at_:PySem.W.findIn K (.ref C) m=some (some (.ref f))
 fn:PySem.W.isFn K (.ref f)=true
 kp:PySem.W.keepIn K (.ref f)=true
section
variable {X:Cx} {pins:List (Addr×Obj)} {σ:St} {H:Hp} {s:Shared} {a C dx:Addr} {fs:List (Str×V)} {f:Str} {v:V} {A:Around} {E:Value->Shared->Prop}
theorem Inv.made (I:Inv X pins σ H s):Inv X pins σ (upd (upd H s.heap.objs.size (.own (s.heap.objs.size + 1))) (s.heap.objs.size + 1) (.ins C s.heap.objs.size []))
  { s with heap:=(s.heap.push PySem.W.emptyDict).push (PySem.W.instObj C s.heap.objs.size) }:=by
 have e1:(s.heap.push PySem.W.emptyDict).get? s.heap.objs.size=some PySem.W.emptyDict:=Heap.get?_push_size s.heap rfl
 have e2:((s.heap.push PySem.W.emptyDict).push (PySem.W.instObj C s.heap.objs.size)).get? (s.heap.objs.size + 1)=some (PySem.W.instObj C s.heap.objs.size):=by
  have:=Heap.get?_push_size (s.heap.push PySem.W.emptyDict) (o:=PySem.W.instObj C s.heap.objs.size) rfl
  rwa [Heap.size_push] at this
 have e3:(s.heap.push PySem.W.emptyDict).Ns s.heap.objs.size (fun _=>none):=⟨PySem.W.emptyDict,#[],_,e1,rfl,(fun e he=>absurd he (by simp)),fun _=>rfl⟩
 have I1:=I.laid (a:=s.heap.objs.size) (o:=.own (s.heap.objs.size + 1)) (h':=s.heap.push PySem.W.emptyDict) (t':=s.toks) (fun b u q=>Heap.get?_push_of_some _ q) (Nat.le_refl _) ⟨_,e1⟩
 refine I1.laid (a:=s.heap.objs.size + 1) (o:=.ins C s.heap.objs.size []) (t':=s.toks) (fun b u q=>Heap.get?_push_of_some _ q) (Nat.le_of_eq (Heap.size_push _ _)) ?_
 have ne:s.heap.objs.size≠s.heap.objs.size + 1:=Nat.ne_of_lt (Nat.lt_succ_self _)
 refine ⟨by rw [Va ne,Xb],Nat.zero_le _,ne,e2,fun _=>none,(Heap.Ns1.of_empty e3).at fun o q=>Heap.get?_push_of_some _ q,fun _=>True.intro,fun y hy=>absurd rfl hy⟩
end
section
variable {X:Cx} {o e value:Expr} {f:Str} {pos pos' tpos:Pos} {ta tv:TE}
end
section
variable {X:Cx} {pins:List (Addr×Obj)} {σ:St} {H:Hp} {s:Shared} {A:Around} {E:Value->Shared->Prop} {Q:Value->Shared->Prop} {c:Value} {b:Bool}
inductive TyOf (K:PySem.W.Frag) (H:Hp):V->Value->Prop where
 | non:TyOf K H .non (.type "NoneType")
 | bl (x:Bool):TyOf K H (.bl x) (.type "bool")
 | int (i:Int):TyOf K H (.int i) (.type "int")
 | str (x:Str):TyOf K H (.str x) (.type "str")
 | flt (x:UInt64):TyOf K H (.flt x) (.type "float")
 | lst {a:Addr} {xs:List V} (e:H a=some (.lst xs)):TyOf K H (.ref a) (.type "list")
 | frz {a:Addr} {o:Obj} {xs:List V} (e:H a=some (.frz o (.lst xs))):TyOf K H (.ref a) (.type "list")
 | tup {a:Addr} {xs:List V} (e:H a=some (.tup xs)):TyOf K H (.ref a) (.type "tuple")
 | dK {a:Addr} {kvs:List (Key×V)} (e:H a=some (.dK kvs)):TyOf K H (.ref a) (.type "dict")
 | dT {a:Addr} {kvs:List (List Key×V)} (e:H a=some (.dT kvs)):TyOf K H (.ref a) (.type "dict")
 | ins {a C dx:Addr} {fs:List (Str×V)} (e:H a=some (.ins C dx fs)) (cl:Cls K C) (ha:PySem.W.findIn K (.ref C) "__class__" = some (some (.builtin "object.__class__")))
   (hn:PySem.W.specialIn K (.builtin "object.__class__") "__get__" = some (some (.builtin "getset_descriptor.__get__"))) (htk:PySem.W.takesIn K (.builtin "object.__class__")=some true)
   (hm:PySem.W.mroIn K C (.type "object")=some true):TyOf K H (.ref a) (.ref C)
theorem Ybt {x:V} {u t:Value} (I:Inv X pins σ H s) (rx:RelV x u) (ty:TyOf X.K H x t) (e:PySem.W.kitOne X.K t c=some b) (h:∀ tk,Q (.bool b) { s with toks:=tk }) :
  wpAny (model X.prog X.w) A (call (.builtin "isinstance") [u,c]) Q E s:=by
 cases ty with
 | non=>cases (show u=Value.none from rx); exact PySem.W.kia_one PySem.W.kitx_none I.kIn True.intro e (fun z=>nomatch z) h
 | bl y=>cases (show u=Value.bool y from rx); exact PySem.W.kia_one PySem.W.kitx_bool I.kIn True.intro e (fun z=>nomatch z) h
 | int i=>obtain ⟨t,q⟩:=(show ∃ t,u=Value.int i t from rx); cases q; exact PySem.W.kia_one PySem.W.kitx_int I.kIn True.intro e (fun z=>nomatch z) h
 | str y=>obtain ⟨t,q⟩:=(show ∃ t,u=Value.str y t from rx); cases q; exact PySem.W.kia_one PySem.W.kitx_str I.kIn True.intro e (fun z=>nomatch z) h
 | flt y=>obtain ⟨t,q⟩:=(show ∃ t,u=Value.float y t from rx); cases q; exact PySem.W.kia_one PySem.W.kitx_float I.kIn True.intro e (fun z=>nomatch z) h
 | @lst a xs ea =>
  cases (show u=Value.ref a from rx)
  obtain ⟨_,_,n,_,h1⟩:=(show ObjOk X.prog X.w H s.heap a (.lst xs) from I.hok a _ ea)
  exact PySem.W.kia_one PySem.W.kitx_list I.kIn ⟨_,h1,rfl⟩ e (fun z=>nomatch z) h
 | @frz a ob xs ea =>
  cases (show u=Value.ref a from rx)
  obtain ⟨_,_,_,n,_,h1⟩:=(show ObjOk X.prog X.w H s.heap a (.frz ob (.lst xs)) from I.hok a _ ea)
  exact PySem.W.kia_one PySem.W.kitx_list I.kIn ⟨_,h1,rfl⟩ e (fun z=>nomatch z) h
 | @tup a xs ea =>
  cases (show u=Value.ref a from rx)
  obtain ⟨_,_,_,p⟩:=(show ObjOk X.prog X.w H s.heap a (.tup xs) from I.hok a _ ea)
  obtain ⟨o,h1,h2,_⟩:=p
  exact PySem.W.kia_one PySem.W.kitx_tuple I.kIn ⟨o,h1,h2⟩ e (fun z=>nomatch z) h
 | @dK a kvs ea =>
  cases (show u=Value.ref a from rx)
  obtain ⟨_,_,vs,_,p⟩:=(show ObjOk X.prog X.w H s.heap a (.dK kvs) from I.hok a _ ea)
  obtain ⟨o,es,ep,h1,h2,_⟩:=p
  exact PySem.W.kia_one PySem.W.kitx_dict I.kIn ⟨o,h1,h2.1⟩ e (fun z=>nomatch z) h
 | @dT a kvs ea =>
  cases (show u=Value.ref a from rx)
  obtain ⟨_,_,xs,_,o,es,ep,h1,h2,_⟩:=(show ObjOk X.prog X.w H s.heap a (.dT kvs) from I.hok a _ ea)
  exact PySem.W.kia_one PySem.W.kitx_dict I.kIn ⟨o,h1,h2.1⟩ e (fun z=>nomatch z) h
 | @ins a C dx fs ea cl ha hn htk hm =>
  cases (show u=Value.ref a from rx)
  obtain ⟨mA,O,_⟩:=ins_get I.hok ea
  obtain ⟨od,J,_⟩:=O.look
  exact PySem.W.kia_one (PySem.W.kitx_own (cl.get _) cl.hd ha hn htk hm) I.kIn J e (fun z=>nomatch z) h
end
end L2
namespace L2
open PySem PySem.Spec PyProof.Rows
structure Room (k:Nat) (A:Around):Prop where
 hd:16<=k->A.handled=none
 dp:A.depth + 3 * k + 5 < recursionLimit
 un:A.units + 16 * k + 200 < cLine
 gd:A.guards=some []
theorem Room.mono {j k:Nat} {A:Around} (r:Room k A) (h:j<=k):Room j A:=⟨fun z=>r.hd (Nat.le_trans z h),by have:=r.dp; omega,by have:=r.un; omega,r.gd⟩
theorem Room.deeper {k:Nat} {A:Around} (r:Room (k + 1) A) (env:Env):Room k (A.deeper env) :=
 ⟨fun z=>r.hd (Nat.le_succ_of_le z),by have:=r.dp; show A.depth + 1 + 3 * k + 5 < _; omega,by have:=r.un; show A.units + 3 + 16 * k + 200 < _; omega,r.gd⟩
theorem Room.in1 {k:Nat} {A:Around} (r:Room (k + 1) A):Room k A.in1 :=
 ⟨fun z=>r.hd (Nat.le_succ_of_le z),by have:=r.dp; show A.depth + 3 * k + 5 < _; omega,by have:=r.un; show A.units + 1 + 16 * k + 200 < _; omega,r.gd⟩
theorem Room.depth {k:Nat} {A:Around} (r:Room k A):A.depth < recursionLimit:=by have:=r.dp; omega
theorem Room.units {k:Nat} {A:Around} (r:Room k A):A.units + 64 < cLine:=by have:=r.un; omega
noncomputable def tNil:TA:=fun _ H Q=>Q [] H
noncomputable def Z9 (ta:TE) (tr:TA):TA:=fun σ H Q=>ta σ H fun x H1=>tr σ H1 fun xs H2=>Q (x :: xs) H2
section
variable {X:Cx} {e:Expr} {es:List Expr} {te:TE} {t:TA} {pos:Pos}
theorem Zw:PA X [] tNil:=fun _ _ _ _ H Q I h=>Calls.spliced_nil ⟨[],H,I,.nil,h⟩
theorem Yl (ha:PE X e te) (hr:PA X es t) (hs:starEach (e :: es) X.env=(false,eval e X.env) :: starEach es X.env:=by rfl):PA X (e :: es) (Z9 te t):=by
 intro pos pins s σ H Q I h
 rw [hs]
 show wpAny _ _ (spliced ((false,eval e X.env) :: backTo pos (starEach es X.env))) _ _ s
 refine Calls.spliced_cons (thn (ha pins s σ H _ I h) fun u s1 ⟨x,H1,I1,r1,q1⟩=>?_)
 exact thn (hr pos pins s1 σ H1 _ I1 q1) fun us s2 ⟨xs,H2,I2,r2,q2⟩=>⟨x :: xs,H2,I2,.cons r1 r2,q2⟩
noncomputable def tTup (t:TA):TE:=fun σ H Q=>t σ H fun xs H1=>xs.length<=sizeLine/\∀ p,H1 p=none->Q (.ref p) (upd H1 p (.tup xs))
noncomputable def tLst (t:TA):TE:=fun σ H Q=>t σ H fun xs H1=>xs.length<=sizeLine/\∀ p,H1 p=none->Q (.ref p) (upd H1 p (.lst xs))
theorem pe_tup {x1} (h:PA X es t):PE X (.Tuple es x1 pos) (tTup t):=by
 intro pins s σ H Q I hq
 refine wpAny_Tuple_spliced (thn (h pos pins s σ H _ I hq) fun us s1 ⟨xs,H1,I1,r,z,q⟩=>⟨by rw [<- r.length]; exact z,?_⟩)
 have hf:H1 s1.heap.objs.size=none:=I1.hok.fresh (Nat.le_refl _)
 refine ⟨.ref s1.heap.objs.size,upd H1 s1.heap.objs.size (.tup xs),I1.laid (t':=s1.toks) (fun b u e=>Heap.get?_push_of_some _ e) (Nat.le_refl _) ?_,rfl,q _ hf⟩
 exact ⟨z,us,r,⟨_,Heap.get?_push_size _ rfl,rfl,_,rfl,rfl⟩⟩
theorem pe_lst (h:PA X es t):PE X (.List es pos) (tLst t):=by
 intro pins s σ H Q I hq
 refine wpAny_List_spliced (thn (h pos pins s σ H _ I hq) fun us s1 ⟨xs,H1,I1,r,z,q⟩=>⟨by rw [<- r.length]; exact z,?_⟩)
 have hf:H1 s1.heap.objs.size=none:=I1.hok.fresh (Nat.le_refl _)
 refine ⟨.ref s1.heap.objs.size,upd H1 s1.heap.objs.size (.lst xs),I1.laid (t':=s1.toks) (fun b u e=>Heap.get?_push_of_some _ e) (Nat.le_refl _) ?_,rfl,q _ hf⟩
 exact ⟨z,us,0,r,Heap.get?_push_size _ rfl⟩
end
noncomputable abbrev Sp:=List V->Hp->VK->XK->Prop
noncomputable abbrev CXT:=List Env->Hp->Shared->XK->Value->Shared->Prop
structure Env0 (P:Program) (w:World) (K:PySem.W.Frag) (mg:Str->Option Value) (base:Heap) (A:Around) (outer:List Env) (s:Shared) (H:Hp):Prop where
 frames:A.frames=some outer
 mod:Mod K mg base
 bs:∀ b o,base.get? b=some o->s.heap.get? b=some o/\H b=none
 bsz:base.objs.size<=s.heap.objs.size
 funs:s.heap.FunFrames base outer
 frf:∀ b∈frs outer,H b=none
 hok:HOk P w H s.heap
 bare:AllBare s.gens
 hh:HdOk A H
noncomputable def CE (outer:List Env) (P:Program) (w:World) (H:Hp) (s:Shared) (Q:VK) (u:Value) (s':Shared):Prop :=
 ∃ v H',s'.os=s.os/\AllBare s'.gens/\Un (frs outer) [] H H' s.heap s'.heap/\HOk P w H' s'.heap/\RelV v u/\Q v H'
noncomputable def CR (CX:CXT) (outer:List Env) (P:Program) (w:World) (H:Hp) (s:Shared) (Q:VK) (E:XK) (r:Result) (s':Shared):Prop :=
 match r with
 | .ok (.ret u)=>CE outer P w H s Q u s'
 | .ok _=>False
 | .error e=>CX outer H s E e s'
structure FnOk (P:Program) (w:World) (K:PySem.W.Frag) (mg:Str->Option Value) (base:Heap) (CX:CXT) (k:Nat) (f:Addr) (fd:FuncData) (ps:List Str) (sp:Sp):Prop where
 len:∀ vs H Q E,sp vs H Q E->vs.length=ps.length
 run:∀ (A:Around) (outer:List Env) (s:Shared) (H:Hp) (args:Args) (us:List Value) (vs:List V) (Q:VK) (E:XK),Room k A->Env0 P w K mg base A outer s H->BindsTo s fd args (ps.zip us)->Vals vs us->sp vs H Q E ->
  codeAny (model P w) A (.call (.ref f) args) (CR CX outer P w H s Q E) s
theorem FnOk.mono {P:Program} {w:World} {K:PySem.W.Frag} {mg:Str->Option Value} {base:Heap} {CX:CXT} {j k:Nat} {f:Addr} {fd:FuncData} {ps:List Str} {sp:Sp} (F:FnOk P w K mg base CX j f fd ps sp) (h:j<=k) :
  FnOk P w K mg base CX k f fd ps sp:=⟨F.len,fun A outer s H args us vs Q E hr=>F.run A outer s H args us vs Q E (hr.mono h)⟩
theorem FnOk.imp {P:Program} {w:World} {K:PySem.W.Frag} {mg:Str->Option Value} {base:Heap} {CX:CXT} {k:Nat} {f:Addr} {fd:FuncData} {ps:List Str} {sp sp':Sp} (F:FnOk P w K mg base CX k f fd ps sp)
  (h:∀ vs H Q E,sp' vs H Q E->sp vs H Q E):FnOk P w K mg base CX k f fd ps sp' :=
 ⟨fun vs H Q E q=>F.len vs H Q E (h _ _ _ _ q),fun A outer s H args us vs Q E hr he hb hv hs=>F.run A outer s H args us vs Q E hr he hb hv (h _ _ _ _ hs)⟩
theorem Env0.in1 {P:Program} {w:World} {K:PySem.W.Frag} {mg:Str->Option Value} {base:Heap} {A:Around} {outer:List Env} {s:Shared} {H:Hp} (e:Env0 P w K mg base A outer s H) :
  Env0 P w K mg base A.in1 outer s H:=⟨e.frames,e.mod,e.bs,e.bsz,e.funs,e.frf,e.hok,e.bare,e.hh⟩
section
variable {X:Cx} {pins:List (Addr×Obj)} {σ:St} {H:Hp} {s s':Shared}
theorem Inv.env0 (I:Inv X pins σ H s):Env0 X.prog X.w X.K X.mg X.base X.A X.stack s H :=
 ⟨I.ok.frames,I.ok.mod,I.bs,Nat.le_trans I.ok.bsz I.sz,I.stack,I.stkFree,I.hok,I.bare,I.hh⟩
theorem Inv.after {Q:VK} {u:Value} (I:Inv X pins σ H s) (h:CE X.stack X.prog X.w H s Q u s'):EP X pins σ Q u s':=by
 obtain ⟨v,H',os,bare,un,hok,r,q⟩:=h
 obtain ⟨hh,g,d,t,os'⟩:=s'
 obtain rfl:os'=s.os:=os
 exact ⟨v,H',I.call (h':=hh) (g':=g) (d':=d) (t':=t) (ch:=[]) un hok bare (fun b z=>absurd z (by simp)),r,q⟩
end
noncomputable def tCall (sp:Sp) (dvs:List V) (E:XK) (t:TA):TE:=fun σ H Q=>t σ H fun vs H1=>sp (vs ++ dvs) H1 Q E
noncomputable def Binds (K:PySem.W.Frag) (fd:FuncData) (ps:List Str) (ds:List Value):Prop :=
 ∀ (s:Shared) (us:List Value),K.In s.heap->(us ++ ds).length=ps.length->BindsTo s fd ⟨us,[]⟩ (ps.zip (us ++ ds))
theorem Binds.all {K:PySem.W.Frag} {fd:FuncData} {ps:List Str} (h:∀ us:List Value,us.length=ps.length->bindArgs fd ⟨us,[]⟩=pure (ps.zip us)):Binds K fd ps []:=fun s us _ hl=>by
 rw [List.append_nil] at hl ⊢
 exact .of_eq (h us hl)
noncomputable def Va8 (CX:CXT) (X:Cx) (E:XK):Prop:=∀ (pins:List (Addr×Obj)) (σ:St) (H:Hp) (s:Shared) (e:Value) (s':Shared),Inv X pins σ H s->CX X.stack H s E e s'->X.xe e s'
section
variable {X:Cx} {CX:CXT} {k:Nat} {f C:Addr} {fd:FuncData} {ps:List Str} {sp:Sp} {dvs:List V} {ds:List Value} {E:XK} {x m:Str} {p pos apos:Pos} {e o:Expr} {es:List Expr} {ta:TE} {t:TA}
theorem run_fn {pins:List (Addr×Obj)} {σ:St} {H:Hp} {s:Shared} {Q:VK} {us:List Value} {vs:List V} (F:FnOk X.prog X.w X.K X.mg X.base CX k f fd ps sp) (hr:Room k X.A) (hb:Binds X.K fd ps ds) (hd:Vals dvs ds) (hx:Va8 CX X E)
  (I:Inv X pins σ H s) (r:Vals vs us) (h:sp (vs ++ dvs) H Q E):wpAny (model X.prog X.w) X.A (call (.ref f) us) (EP X pins σ Q) X.xe s:=by
 have r2:Vals (vs ++ dvs) (us ++ ds):=r.append hd
 have hl:(us ++ ds).length=ps.length:=by rw [<- r2.length]; exact F.len _ _ _ _ h
 refine wpAny_call (codeAny_mono (F.run X.A X.stack s H ⟨us,[]⟩ (us ++ ds) (vs ++ dvs) Q E hr I.env0 (hb s us I.kIn hl) r2 h) fun r s' hq=>?_)
 cases r with
 | error e=>exact hx pins σ H s e s' I hq
 | ok fl =>
  cases fl with
  | ret u=>exact I.after hq
  | next=>exact False.elim hq
  | brk=>exact False.elim hq
  | cont=>exact False.elim hq
theorem pe_call (F:FnOk X.prog X.w X.K X.mg X.base CX k f fd ps sp) (hr:Room k X.A) (hg:Gl X x) (hm:X.mg x=some (.ref f)) (hk:PySem.W.keepIn X.K (.ref f)=true) (hb:Binds X.K fd ps ds) (hd:Vals dvs ds) (hx:Va8 CX X E)
  (ha:PA X (e :: es) t) (hdb:(x == ("__debug__" : Str))=false:=by decide) (he:starEach (e :: es) X.env=(false,eval e X.env) :: starEach es X.env:=by rfl) (hpl:(backTo pos (starEach es X.env)).any (·.1)=false:=by rfl) :
  PE X (.Call (.Name x p) (e :: es) [] pos) (tCall sp dvs E t):=by
 intro pins s σ H Q I h
 refine wpAny_Call_Name_kw (Yaw I hg hm ?_ hdb)
 refine PySem.W.callWith_K (h₀:=X.base) I.ok.mod.kin hk (thn (ha pos pins s σ H _ I h) fun us s1 ⟨vs,H1,I1,r,q⟩=>⟨I1.kIn,?_⟩) he hpl
 exact run_fn F hr hb hd hx I1 r q
theorem Wcd (F:FnOk X.prog X.w X.K X.mg X.base CX k f fd ps sp) (hr:Room k X.A) (hg:Gl X x) (hm:X.mg x=some (.ref f)) (hk:PySem.W.keepIn X.K (.ref f)=true) (hb:Binds X.K fd ps ds) (hd:Vals dvs ds) (hx:Va8 CX X E)
  (hdb:(x == ("__debug__" : Str))=false:=by decide):PE X (.Call (.Name x p) [] [] pos) (tCall sp dvs E tNil):=by
 intro pins s σ H Q I h
 refine wpAny_Call_Name_kw (Yaw I hg hm ?_ hdb)
 exact PySem.W.callWith_K0 I.kIn hk (run_fn (us:=[]) F hr hb hd hx I .nil h)
structure Mk (K:PySem.W.Frag) (C f:Addr):Prop where
 makes:PySem.W.makesIn K C=true
 init:PySem.W.findIn K (.ref C) "__init__" = some (some (.ref f))
 fn:PySem.W.isFn K (.ref f)=true
 kp:PySem.W.keepIn K (.ref C)=true
end
noncomputable def PK (X:Cx) (kws:List Keyword) (t:TA):Prop :=
 ∀ (pos:Pos) (pins:List (Addr×Obj)) (s:Shared) (σ:St) (H:Hp) (Q:List V->Hp->Prop),Inv X pins σ H s->t σ H Q->wpAny (model X.prog X.w) X.A (evalAll ((backToKw pos (keywordEach kws X.env)).map (·.2))) (AP X pins σ Q) X.xe s
section
variable {X:Cx} {CX:CXT} {k:Nat} {f C:Addr} {fd:FuncData} {ps ks:List Str} {sp:Sp} {E:XK} {x m:Str} {p pos apos kpos:Pos} {e o:Expr} {es:List Expr} {kws:List Keyword} {te ta:TE} {t tk:TA} {nm:Option Str}
theorem pk_nil:PK X [] tNil:=fun _ _ _ _ H Q I h=>wpAny_evalAll_nil ⟨[],H,I,.nil,h⟩
theorem pk_cons (ha:PE X e te) (hr:PK X kws t):PK X (⟨nm,e,kpos⟩ :: kws) (Z9 te t):=by
 intro pos pins s σ H Q I h
 show wpAny _ _ (evalAll ((do let v <- eval e X.env; standAt pos; pure v) :: (backToKw pos (keywordEach kws X.env)).map (·.2))) _ _ s
 refine wpAny_evalAll_cons (wpAny_bind (thn (ha pins s σ H _ I h) fun u s1 ⟨x,H1,I1,r1,q1⟩=>wpAny_bind (wpAny_standAt (wpAny_pure ?_))))
 exact thn (hr pos pins s1 σ H1 _ I1 q1) fun us s2 ⟨xs,H2,I2,r2,q2⟩=>⟨x :: xs,H2,I2,.cons r1 r2,q2⟩
variable {g:List Value->List Value->List Value} {gV:List V->List V->List V}
end
structure FnScope (N P:List Str) (sc:Scope):Prop where
 kind:sc.kind = .function
 co:sc.isCoroutine=false
 gen:sc.isGenerator=false
 nd:N.Nodup
 pre:N.take P.length=P
 par:∀ x∈P,sc.names.lookup x=some .local∨sc.names.lookup x=some .cell
 nofree:∀ y∈sc.names,y.2≠.free
theorem Waq {kindOf:Str->Option NameKind} {x:Str}:∀ {binds:List (Str×Value)} {m:Str->Option Value},(∀ v,(x,v) ∉ binds)->bindL kindOf binds m x=m x
 | [],_,_=>rfl
 | (n,v) :: r,m,h=>by
  unfold bindL
  rw [Waq fun w hw=>h w (List.mem_cons_of_mem _ hw)]
  split
  ·have:x≠n:=by rintro rfl; exact h v List.mem_cons_self
   simp [this]
  ·rfl
theorem Zar {kindOf:Str->Option NameKind} {x:Str}:∀ {binds:List (Str×Value)} {m:Str->Option Value},(∀ v,(x,v) ∉ binds)->bindC kindOf binds m x=m x
 | [],_,_=>rfl
 | (n,v) :: r,m,h=>by
  unfold bindC
  rw [Zar fun w hw=>h w (List.mem_cons_of_mem _ hw)]
  split
  ·rfl
  ·have:x≠n:=by rintro rfl; exact h v List.mem_cons_self
   simp [this]
theorem Vaq {kindOf:Str->Option NameKind} {x:Str} {v:Value}:∀ {P:List Str} {vs:List Value} {i:Nat} {m:Str->Option Value},P.Nodup->P[i]? = some x->vs[i]? = some v->kindOf x=some .local ->
  bindL kindOf (P.zip vs) m x=some v
 | [],_,_,_,_,h,_,_=>by simp at h
 | _ :: _,[],_,_,_,_,h,_=>by simp at h
 | p :: P,w :: vs,0,m,nd,h1,h2,hk=>by
  simp at h1 h2; subst h1; subst h2
  show bindL kindOf ((p,w) :: P.zip vs) m p=_
  unfold bindL
  rw [Waq fun v hv=>(List.nodup_cons.mp nd).1 (List.of_mem_zip hv).1,if_pos hk]
  simp
 | p :: P,w :: vs,i + 1,m,nd,h1,h2,hk=>by
  show bindL kindOf ((p,w) :: P.zip vs) m x=_
  unfold bindL
  exact Vaq (i:=i) (List.nodup_cons.mp nd).2 (by simpa using h1) (by simpa using h2) hk
theorem Yar {kindOf:Str->Option NameKind} {x:Str} {v:Value}:∀ {P:List Str} {vs:List Value} {i:Nat} {m:Str->Option Value},P.Nodup->P[i]? = some x->vs[i]? = some v->kindOf x≠some .local ->
  bindC kindOf (P.zip vs) m x=some v
 | [],_,_,_,_,h,_,_=>by simp at h
 | _ :: _,[],_,_,_,_,h,_=>by simp at h
 | p :: P,w :: vs,0,m,nd,h1,h2,hk=>by
  simp at h1 h2; subst h1; subst h2
  show bindC kindOf ((p,w) :: P.zip vs) m p=_
  unfold bindC
  rw [Zar fun v hv=>(List.nodup_cons.mp nd).1 (List.of_mem_zip hv).1,if_neg hk]
  simp
 | p :: P,w :: vs,i + 1,m,nd,h1,h2,hk=>by
  show bindC kindOf ((p,w) :: P.zip vs) m x=_
  unfold bindC
  exact Yar (i:=i) (List.nodup_cons.mp nd).2 (by simpa using h1) (by simpa using h2) hk
noncomputable def start (N:List Str) (vs:List V):St:=vs.map some ++ List.replicate (N.length - vs.length) none
noncomputable def cxOf (CX:CXT) (P:Program) (w:World) (K:PySem.W.Frag) (mg:Str->Option Value) (base:Heap) (N:List Str) (qual:Str) (scope:Scope) (f:Addr) (cd:Value) (A:Around) (outer:List Env) (s:Shared) (H:Hp) (E:XK):Cx where
 prog:=P
 w:=w
 K:=K
 mg:=mg
 base:=base
 A:=A.deeper (envOfC qual scope s.heap.objs.size f cd)
 N:=N
 s₀:=s
 H₀:=H
 env:=envOfC qual scope s.heap.objs.size f cd
 outer:=outer
 stack:=envOfC qual scope s.heap.objs.size f cd :: outer
 ex:=[]
 calm:=A.handled.isNone
 fn:=fun _=>true
 pn:=[]
 xe:=fun e s'=>wpAny (model P w) (A.deeper (envOfC qual scope s.heap.objs.size f cd)) (leaving (envOfC qual scope s.heap.objs.size f cd) e) (fun _ s''=>CX outer H s E e s'') (fun e' s''=>CX outer H s E e' s'') s'
theorem Va7 {sc:Scope} {n:Nat} {x:Str} (h:sc.names.lookup x=some .cell):∃ c,(cellsFrom n sc.names []).lookup x=some c:=by
 have q:=PySem.W.cellsFrom_some sc.names n [] (.inl h)
 exact Option.isSome_iff_exists.mp q
theorem Ybu {CX:CXT} {P:Program} {w:World} {K:PySem.W.Frag} {mg:Str->Option Value} {base:Heap} {N ps:List Str} {qual:Str} {scope:Scope} {f:Addr} {cd:Value} {A:Around} {outer:List Env} {s s1:Shared} {H:Hp} {E:XK} {us:List Value} {vs:List V}
  (S:FnScope N ps scope) (e0:Env0 P w K mg base A outer s H) (hl:vs.length=ps.length) (r:Vals vs us)
  (x:InCallC s s.heap.objs.size (bindL (envOfC qual scope s.heap.objs.size f cd).kindOf (ps.zip us) fun _=>none) (cellsFrom (s.heap.objs.size + 1) scope.names []) (bindC (envOfC qual scope s.heap.objs.size f cd).kindOf (ps.zip us) fun _=>none) s1) :
  Inv (cxOf CX P w K mg base N qual scope f cd A outer s H E) [] (start N vs) H s1:=by
 have hpl:ps.length<=N.length:=by have:=congrArg List.length S.pre; rw [List.length_take] at this; omega
 obtain ⟨h1,tk,rfl,hk⟩:=x.done
 have noA:∀ b:Addr,b ∉ (cxOf CX P w K mg base N qual scope f cd A outer s H E).ex:=fun b z=>absurd (show b∈([]:List Addr) from z) (by simp)
 refine ⟨⟨e0.mod,S.kind,rfl,rfl,Nat.le_refl _,fun y z c h1 h2=>?_,fun y hy=>?_,fun y c _ h=>?_,fun z=>Option.isNone_iff_eq_none.mp z,Around.frames_deeper e0.frames,.inr ⟨rfl,rfl⟩,fun b z=>absurd z (noA b),e0.bs,e0.bsz,fun b _ _=>noA b,fun b z=>absurd z (noA b),e0.funs,e0.frf⟩,
  rfl,e0.bare,Un.kept hk,⟨_,x.toInCall.ns,fun i y v h1 h2 h3=>?_⟩,fun y c h=>⟨_,x.cell y c h⟩,e0.hok.fresh (Nat.le_refl _),fun y c h=>?_,fun p hp=>absurd (show p∈([]:List (Addr×Obj)) from hp) (by simp),e0.hok.kept hk,?_,e0.hh⟩
 ·exact name_of_addr x.apart (PySem.mem_of_lookup h1) (PySem.mem_of_lookup h2)
 ·have hy:scope.names.lookup y=some .cell∨scope.names.lookup y=some .free:=hy
  rcases hy with hy | hy
  ·exact Va7 hy
  ·exact absurd rfl (S.nofree _ (PySem.mem_of_lookup hy))
 ·exact Nat.le_of_lt (x.above y c (PySem.mem_of_lookup h))
 ·have hi:i < vs.length:=by
   unfold start at h2
   by_cases hi:i < vs.length
   ·exact hi
   ·rw [List.getElem?_append_right (by simpa using hi)] at h2
    rw [List.getElem?_replicate] at h2
    split at h2 <;> cases h2
  have ha:vs[i]? = some v:=by
   unfold start at h2
   rw [List.getElem?_append_left (by simpa using hi),List.getElem?_map] at h2
   cases e:vs[i]? with
   | none=>rw [e] at h2; cases h2
   | some a=>rw [e] at h2; cases h2; rfl
  obtain ⟨u,hu,rv⟩:=r.get ha
  have hp:ps[i]? = some y:=by
   rw [<- S.pre,List.getElem?_take_of_lt (by omega)]; exact h1
  have ndP:ps.Nodup:=by rw [<- S.pre]; exact S.nd.sublist (List.take_sublist _ _)
  refine ⟨u,rv,?_⟩
  rcases S.par y (List.mem_of_getElem? hp) with k | k
  ·exact .inl ⟨k,Vaq ndP hp hu k⟩
  ·obtain ⟨c,e⟩:=Va7 (n:=s.heap.objs.size + 1) k
   refine .inr ⟨.inl k,c,e,?_⟩
   have q:=x.cell y c e
   rw [Yar ndP hp hu (by show scope.names.lookup y≠_; rw [k]; decide)] at q
   exact q
 ·exact e0.hok.fresh (Nat.le_of_lt (x.above y c (PySem.mem_of_lookup h)))
 ·unfold start
  show _=N.length
  rw [List.length_append,List.length_map,List.length_replicate]
  omega
theorem fn_of {CX:CXT} {P:Program} {w:World} {K:PySem.W.Frag} {mg:Str->Option Value} {base:Heap} {k:Nat} {f:Addr} {name qual:Str} {params:Arguments} {body:List Stmt} {scope:Scope} {dV kV doc pm cdv ct oc:Value} {an od:Option Addr}
  {osl:Array (Option Value)} {N ps:List Str} {sp:Sp} (lk:K.lookup f=some ⟨oc,od,.func (PySem.W.fnOf name qual params body scope dV kV doc pm an cdv ct),osl⟩) (hcd:PySem.W.codeIn K cdv qual=true) (S:FnScope N ps scope)
  (len:∀ vs H Q E,sp vs H Q E->vs.length=ps.length)
  (hbody:∀ (A:Around) (outer:List Env) (s:Shared) (H:Hp) (vs:List V) (Q:VK) (E:XK),Room k (A.deeper (envOfC qual scope s.heap.objs.size f cdv))->sp vs H Q E ->
   ∃ t,PSs (cxOf CX P w K mg base N qual scope f cdv A outer s H E) body t/\t { nx:=fun _ H'=>Q .non H',rt:=Q } (start N vs) H) :
  FnOk P w K mg base CX (k + 1) f (PySem.W.fnOf name qual params body scope dV kV doc pm an cdv ct) ps sp:=by
 refine ⟨len,fun A outer s H args us vs Q E hr e0 hb r hsp=>?_⟩
 have hl:=len _ _ _ _ hsp
 have KX:K.In s.heap:=e0.mod.kin.keeps fun b o e=>(e0.bs b o e).1
 have lim:s.heap.NoLimit:=e0.mod.nolimit.keeps fun b o e=>(e0.bs b o e).1
 have hkind:∀ y∈ps.zip us,scope.names.lookup y.1=some .local∨(scope.names.lookup y.1=some .cell/\((cellsFrom (s.heap.objs.size + 1) scope.names []).lookup y.1).isSome=true):=fun ⟨n,v⟩ hy=>by
  rcases S.par n (List.of_mem_zip hy).1 with q | q
  ·exact .inl q
  ·exact .inr ⟨q,PySem.W.cellsFrom_some _ _ _ (.inl q)⟩
 refine codeAny_call_function hr.depth (KX _ _ lk) rfl S.co S.gen rfl (PySem.W.codeRec_of KX hcd) (hb _ _ _ _ ?_)
 refine wpAny_newFunctionEnv_cells S.kind hkind fun env he s1 x=>?_
 subst he
 refine ⟨lim.keeps x.toInCall.keep,codeAny_func ?_⟩
 obtain ⟨t,ht,hq⟩:=hbody A outer s H vs Q E (hr.deeper _) hsp
 have I:Inv (cxOf CX P w K mg base N qual scope f cdv A outer s H E) [] (start N vs) H s1:=Ybu S e0 hl r x
 refine wpAny_mono (ht [] s1 (start N vs) H _ I hq) (fun fl s' hs=>?_) fun e s' hs=>hs
 have fin:∀ {σ':St} {H':Hp} {v:V} {u:Value},Inv (cxOf CX P w K mg base N qual scope f cdv A outer s H E) [] σ' H' s'->RelV v u->Q v H'->CE outer P w H s Q u s' :=
  fun {σ' H' v u} J rv q=>⟨v,H',J.os,J.bare,J.base,J.hok,rv,q⟩
 cases fl with
 | ret u =>
  obtain ⟨v,σ',H',J,rv,q⟩:=hs
  exact fin J rv q
 | next =>
  obtain ⟨σ',H',J,q⟩:=hs
  exact fin (v:=V.non) (u:=Value.none) J rfl q
 | brk =>
  obtain ⟨_,_,_,q⟩:=hs
  exact False.elim q
 | cont =>
  obtain ⟨_,_,_,q⟩:=hs
  exact False.elim q
end L2
namespace L2
open PySem PySem.Spec PyProof.Rows
section
variable {X:Cx} {x:Str} {p pos:Pos} {e:Expr} {es:List Expr} {t:TA} {id T:String} {r:List V->Hp->VK->Prop}
noncomputable def tCB (r:List V->Hp->VK->Prop) (t:TA):TE:=fun σ H Q=>t σ H fun vs H1=>r vs H1 Q
theorem Vg (hc:CallR X (.builtin id) r) (hg:Gl X x) (hm:X.mg x=none) (hv:bootBuiltins x=some (.builtin id)) (ha:PA X (e :: es) t) (hn:x≠"__name__":=by decide) (hdb:(x == ("__debug__" : Str))=false:=by decide)
  (he:starEach (e :: es) X.env=(false,eval e X.env) :: starEach es X.env:=by rfl) (hpl:(backTo pos (starEach es X.env)).any (·.1)=false:=by rfl):PE X (.Call (.Name x p) (e :: es) [] pos) (tCB r t):=by
 intro pins s σ H Q I h
 refine wpAny_Call_Name_kw (Vt I hg hm hv ?_ hn hdb)
 exact PyProof.Rows.callWith_builtin1 (thn (ha pos pins s σ H _ I h) fun us s1 ⟨vs,H1,I1,r1,q1⟩=>hc pins s1 σ H1 vs us Q I1 r1 q1) he hpl
theorem Zo (hc:CallR X (.type T) r) (hg:Gl X x) (hm:X.mg x=none) (hv:bootBuiltins x=some (.type T)) (ha:PA X (e :: es) t) (hn:x≠"__name__":=by decide) (hdb:(x == ("__debug__" : Str))=false:=by decide)
  (he:starEach (e :: es) X.env=(false,eval e X.env) :: starEach es X.env:=by rfl) (hpl:(backTo pos (starEach es X.env)).any (·.1)=false:=by rfl):PE X (.Call (.Name x p) (e :: es) [] pos) (tCB r t):=by
 intro pins s σ H Q I h
 refine wpAny_Call_Name_kw (Vt I hg hm hv ?_ hn hdb)
 exact PyProof.Rows.callWith_type1 (thn (ha pos pins s σ H _ I h) fun us s1 ⟨vs,H1,I1,r1,q1⟩=>hc pins s1 σ H1 vs us Q I1 r1 q1) he hpl
end
end L2
namespace HT
open PySem PyProof.Rows
section
open PySem.SeqAt
open PySem.AutoSeq1 (wpAny_loadPart')
open PySem.MeetsSeq PySem.MeetsSeq2 PySem.MeetsSeq3
end
section
variable {prog:Program} {w:World} {A:Around} {E:Value->Shared->Prop} {s:Shared}
theorem cat_tup {t b:Addr} {vs ws:List Value} {Q:Value->Shared->Prop} (ht:IsTup s.heap t vs.toArray) (hb:IsTup s.heap b ws.toArray) (hv:vs≠[])
  (h1:ws=[]->Q (.ref t) s) (h2:ws≠[]->Q (.ref s.heap.objs.size) { s with heap:=s.heap.push { cls:=.type "tuple",data:=.seq (vs ++ ws).toArray } })
  (hsz:vs.length + ws.length<=sizeLine):wpAny (model prog w) A (binaryOp .Add (.ref t) (.ref b)) Q E s:=by
 obtain ⟨⟨cls,dd,data,sl⟩,ho,hc,n,hd⟩:=id ht
 obtain ⟨⟨cls2,dd2,data2,sl2⟩,ho2,hc2,n2,hd2⟩:=id hb
 simp only at hc hd hc2 hd2
 subst hc hd hc2 hd2
 have e:vs.toArray ++ ws.toArray=(vs ++ ws).toArray:=by simp
 by_cases hw:ws=[]
 ·exact concat_meets ⟨_,ho,rfl⟩ ⟨_,ho2,rfl⟩ noFill_tuple_add seq_tuple_add PySem.F.slot_tuple_add PySem.F.entry_tuple_add (PySem.F.args_tuple_add_2 _ _)
   (tuple_addW1 t b vs.toArray ws.toArray n n2 dd dd2 sl sl2 (by simpa using hv) (by simp [hw])) ⟨ho,ho2,h1 hw⟩
 ·refine concat_meets ⟨_,ho,rfl⟩ ⟨_,ho2,rfl⟩ noFill_tuple_add seq_tuple_add PySem.F.slot_tuple_add PySem.F.entry_tuple_add (PySem.F.args_tuple_add_2 _ _)
   (tuple_addW2 t b vs.toArray ws.toArray n n2 dd dd2 sl sl2 (by simpa using hv) (by simpa using hw) (by rw [List.size_toArray,List.size_toArray]; exact hsz)) ⟨ho,ho2,?_⟩
  rw [e]
  exact h2 hw
noncomputable def sIx (n d:Nat):Option Int->Nat
 | none=>d
 | some v=>if v < 0 then (v + (n:Int)).toNat else min v.toNat n
theorem sIx_le (n d:Nat) (hd:d<=n) (o:Option Int):sIx n d o<=n:=by
 cases o with
 | none=>exact hd
 | some v =>
  show (if v < 0 then (v + (n:Int)).toNat else min v.toNat n)<=n
  by_cases hv:v < 0
  ·rw [if_pos hv]; omega
  ·rw [if_neg hv]; exact Nat.min_le_right _ _
theorem Wbz (v:Int) (n d:Nat):(if v < 0 then max (v + (n:Int)) 0 else min v (n:Int))=((sIx n d (some v):Nat):Int):=by
 show (if v < 0 then max (v + (n:Int)) 0 else min v (n:Int))=(((if v < 0 then (v + (n:Int)).toNat else min v.toNat n):Nat):Int)
 by_cases hv:v < 0
 ·simp only [if_pos hv]; omega
 ·simp only [if_neg hv]; omega
theorem Wbg (lo hi:Option Int) (n:Nat):Builtin.Slice.sliceAdjust lo hi 1 (n:Int)=(((sIx n 0 lo:Nat):Int),((sIx n n hi:Nat):Int)):=by
 have h1:¬ ((1:Int) < 0):=by omega
 unfold Builtin.Slice.sliceAdjust
 simp only [h1,if_false]
 refine Prod.ext ?_ ?_
 ·cases lo with
  | none=>rfl
  | some v=>exact Wbz v n 0
 ·cases hi with
  | none=>rfl
  | some v=>exact Wbz v n n
theorem Xbb (i j:Nat):Builtin.Slice.slicePlaces (i:Int) (j:Int) 1=j - i:=by
 unfold Builtin.Slice.slicePlaces
 have h1:(1:Int) > 0:=by omega
 simp only [h1,if_true,Int.ediv_one]
 split <;> omega
theorem Wab {v:Value} {o:Option Int} {Q:Option Int->Shared->Prop} (p:IsPart v o) (h:Q o s):wpAny (model prog w) A (Builtin.Slice.slicePartIndex v) Q E s:=by
 cases p with
 | none=>exact slicePart_none h
 | int i t=>exact slicePart_int h
theorem sliceApplied_gen {sl:Addr} {vl vu:Value} {lo hi:Option Int} {n:Nat} {Q:Int×Int×Nat->Shared->Prop} (hs:s.heap.IsSliceOf sl vl vu .none) (pl:IsPart vl lo) (pu:IsPart vu hi)
  (h:Q (((sIx n 0 lo:Nat):Int),1,sIx n n hi - sIx n 0 lo) s):wpAny (model prog w) A (Builtin.Slice.sliceApplied (.ref sl) (pure (n:Int))) Q E s:=by
 obtain ⟨os,hos,hcs,hds⟩:=id hs
 unfold Builtin.Slice.sliceApplied Builtin.Slice.sliceFields
 refine wpAny_bind (wpAny_bind (wpAny_field hos hds (x:=vl) rfl (wpAny_bind (wpAny_field hos hds (x:=vu) rfl (wpAny_bind (wpAny_field hos hds (x:=.none) rfl (wpAny_pure ?_)))))))
 refine wpAny_bind (slicePart_none ?_)
 show wpAny _ _ (if ((1:Int) == 0)=true then _ else _) _ _ s
 rw [if_neg (by decide)]
 refine wpAny_bind (Wab pl (wpAny_bind (Wab pu (wpAny_bind (wpAny_pure ?_)))))
 show wpAny _ _ (match Builtin.Slice.sliceAdjust lo hi 1 (n:Int) with | (lo,hi)=>pure (lo,(1:Int),Builtin.Slice.slicePlaces lo hi 1)) _ _ s
 rw [Wbg lo hi n]
 show wpAny _ _ (pure (((sIx n 0 lo:Nat):Int),(1:Int),Builtin.Slice.slicePlaces ((sIx n 0 lo:Nat):Int) ((sIx n n hi:Nat):Int) 1)) _ _ s
 rw [Xbb]
 exact wpAny_pure h
theorem Wca (xs:Array Value) (i k:Nat):((List.range k).filterMap fun (m:Nat)=>xs[((i:Int) + (m:Int) * 1).toNat]?).toArray=((xs.toList.drop i).take k).toArray:=by
 have e:(fun (m:Nat)=>xs[((i:Int) + (m:Int) * 1).toNat]?)=fun m=>xs[i + m]?:=by
  funext m
  have:((i:Int) + (m:Int) * 1).toNat=i + m:=by omega
  rw [this]
 rw [e]
 have:=pick_run xs i k
 rw [List.filterMap_map] at this
 have e2:((fun x=>xs[x]?) ∘ fun x=>i + x)=fun m=>xs[i + m]?:=rfl
 rw [e2] at this
 rw [this]
theorem getItem_tuple_cut {t sl:Addr} {items:Array Value} {vl vu:Value} {lo hi:Option Int} {Q:Value->Shared->Prop} (ht:IsTup s.heap t items) (hs:s.heap.IsSliceOf sl vl vu .none) (pl:IsPart vl lo) (pu:IsPart vu hi)
  (hw:¬ (sIx items.size 0 lo=0/\sIx items.size items.size hi=items.size))
  (h:Q (.ref s.heap.objs.size) { s with heap:=s.heap.push { cls:=.type "tuple",data:=.seq ((items.toList.drop (sIx items.size 0 lo)).take (sIx items.size items.size hi - sIx items.size 0 lo)).toArray } })
  (hsz:items.size<=sizeLine):wpAny (model prog w) A (getItem (.ref t) (.ref sl)) Q E s:=by
 have htake:sizeOk (.seq ((items.toList.drop (sIx items.size 0 lo)).take (sIx items.size items.size hi - sIx items.size 0 lo)).toArray):=by
  show ((items.toList.drop (sIx items.size 0 lo)).take (sIx items.size items.size hi - sIx items.size 0 lo)).toArray.size<=sizeLine
  rw [List.size_toArray,List.length_take,List.length_drop,Array.length_toList]
  omega
 have hj:sIx items.size items.size hi<=items.size:=sIx_le _ _ (Nat.le_refl _) hi
 obtain ⟨os,hos,hcs,hds⟩:=id hs
 have hTs:s.TypeIs (.ref sl) "slice":=⟨os,hos,hcs⟩
 unfold getItem
 try with_reducible refine wpAny_holding ?_
 first | refine wpAny_bind (wpAny_pure ?_) | skip
 refine wpAny_bind (wpAny_sequenceKey ht.typeIs (by decide) ?_)
 refine wpAny_bind (wpAny_callSpecial?_slot (name:=Str.ofString "__getitem__") ht.typeIs PyProof.Rows.slot_tuple_getitem
  (wpAny_call_entry PyProof.Rows.slot_tuple_getitem ht.typeIs entry_tuple_getitem ?_ (args_tuple_getitem _ _)))
 show wpAny _ _ (Builtin.Tuple.tupleItemsOf (.ref t) >>= _) _ _ s
 refine wpAny_bind (tupleItemsOf_ ht ?_)
 refine wpAny_bind (wpAny_typeOf hTs ?_)
 rw [if_pos (by decide)]
 refine wpAny_bind (sliceApplied_gen hs pl pu ?_)
 have hno:¬ ((((sIx items.size 0 lo:Nat):Int) == 0 && (1:Int) == 1 && (sIx items.size items.size hi - sIx items.size 0 lo) == items.size)=true):=by
  intro q
  rw [Bool.and_eq_true,Bool.and_eq_true] at q
  have q1:((sIx items.size 0 lo:Nat):Int)=0:=eq_of_beq q.1.1
  have q2:sIx items.size items.size hi - sIx items.size 0 lo=items.size:=eq_of_beq q.2
  exact hw ⟨by omega,by omega⟩
 show wpAny _ _ (if (((sIx items.size 0 lo:Nat):Int) == 0 && (1:Int) == 1 && (sIx items.size items.size hi - sIx items.size 0 lo) == items.size)=true then _ else _) _ _ s
 rw [if_neg hno,Wca]
 first
  | exact wpAny_bind (m:=Builtin.Tuple.tupleExact _) (wpAny_newObj_type (wpAny_pure ⟨_,rfl,wpAny_pure h⟩) htake)
  | exact wpAny_bind (m:=Builtin.Tuple.tupleExact _) (wpAny_newObj_type (wpAny_bind (wpAny_pure (wpAny_pure ⟨_,rfl,wpAny_pure h⟩))) htake)
  | exact wpAny_bind (wpAny_bind (m:=Builtin.Tuple.tupleExact _) (wpAny_newObj_type (wpAny_pure (wpAny_pure ⟨_,rfl,wpAny_pure h⟩)) htake))
  | exact wpAny_bind (wpAny_bind (m:=Builtin.Tuple.tupleExact _) (wpAny_newObj_type (wpAny_pure ⟨_,rfl,wpAny_pure h⟩) htake))
end
end HT
namespace L2
open PySem PySem.Spec PyProof.Rows
noncomputable abbrev TO:=St->Hp->(Option Int->Hp->Prop)->Prop
noncomputable def PO (X:Cx) (e:Option Expr) (t:TO):Prop :=
 ∀ (pins:List (Addr×Obj)) (s:Shared) (σ:St) (H:Hp) (Q:Option Int->Hp->Prop),Inv X pins σ H s->t σ H Q ->
  wpAny (model X.prog X.w) X.A (evalPart e X.env) (fun u s'=>∃ o H',Inv X pins σ H' s'/\IsPart u o/\Q o H') X.xe s
noncomputable def tNoPart:TO:=fun _ H Q=>Q none H
noncomputable def tPart (t:TE):TO:=fun σ H Q=>t σ H fun x H1=>∃ i,x = .int i/\Q (some i) H1
section
variable {X:Cx} {e:Expr} {te:TE} {lo hi:Option Expr} {tl th:TO} {pos p2:Pos}
theorem po_none:PO X none tNoPart:=by
 intro pins s σ H Q I h
 rw [evalPart_none]
 exact wpAny_pure ⟨none,H,I,.none,h⟩
theorem po_some (h:PE X e te):PO X (some e) (tPart te):=by
 intro pins s σ H Q I hw
 rw [evalPart_some]
 refine thn (h pins s σ H _ I hw) fun u s1 ⟨x,H1,I1,r1,q1⟩=>?_
 obtain ⟨i,rfl,q⟩:=q1
 obtain ⟨t,rfl⟩:=r1
 exact ⟨some i,H1,I1,.int i t,q⟩
noncomputable def SlR (X:Cx) (r:V->Option Int->Option Int->Hp->VK->Prop):Prop :=
 ∀ (pins:List (Addr×Obj)) (s:Shared) (σ:St) (H:Hp) (x:V) (v vl vu:Value) (lo hi:Option Int) (sl:Addr) (Q:VK),Inv X pins σ H s->RelV x v->s.heap.IsSliceOf sl vl vu .none->IsPart vl lo->IsPart vu hi->r x lo hi H Q ->
  ∃ T id,typeLookup (.type T) "__getitem__" = pure (some (.builtin id))/\s.TypeIs v T/\wpAny (model X.prog X.w) X.A (getItem v (.ref sl)) (EP X pins σ Q) X.xe s
theorem SlR.or {r r':V->Option Int->Option Int->Hp->VK->Prop} (h:SlR X r) (h':SlR X r'):SlR X (fun x lo hi H Q=>r x lo hi H Q∨r' x lo hi H Q):=by
 intro pins s σ H x v vl vu lo hi sl Q I rx hs pl pu q
 rcases q with q | q
 ·exact h pins s σ H x v vl vu lo hi sl Q I rx hs pl pu q
 ·exact h' pins s σ H x v vl vu lo hi sl Q I rx hs pl pu q
noncomputable def tSl (r:V->Option Int->Option Int->Hp->VK->Prop) (te:TE) (tl th:TO):TE:=fun σ H Q=>te σ H fun x H1=>tl σ H1 fun l H2=>th σ H2 fun u H3=>r x l u H3 Q
theorem Vcb {r:V->Option Int->Option Int->Hp->VK->Prop} (hr:SlR X r) (he:PE X e te) (hl:PO X lo tl) (hu:PO X hi th):PE X (.Subscript e (.Slice lo hi none p2) pos) (tSl r te tl th):=by
 intro pins s σ H Q I h
 refine Subscript_ (thn (he pins s σ H _ I h) fun v s1 ⟨x,H1,I1,r1,q1⟩=>?_)
 refine wpAny_Slice (thn (hl pins s1 σ H1 _ I1 q1) fun vl s2 ⟨l,H2,I2,pl,q2⟩=>thn (hu pins s2 σ H2 _ I2 q2) fun vu s3 ⟨u,H3,I3,pu,q3⟩=>?_)
 rw [evalPart_none]
 refine wpAny_pure ?_
 have I4:Inv X pins σ H3 { s3 with heap:=s3.heap.push { cls:=.type "slice",data:=.fields #[vl,vu,.none] } }:=I3.kept (t':=s3.toks) fun b ob q=>Heap.get?_push_of_some _ q
 obtain ⟨T,id,hT,ht,hg⟩:=hr pins { s3 with heap:=s3.heap.push { cls:=.type "slice",data:=.fields #[vl,vu,.none] } } σ H3 x v vl vu l u s3.heap.objs.size Q I4 r1 (Heap.IsSliceOf.new ..) pl pu q3
 show wpAny (model X.prog X.w) X.A (subscriptTail e (.Slice lo hi none p2) v (.ref s3.heap.objs.size)) (EP X pins σ Q) X.xe { s3 with heap:=s3.heap.push { cls:=.type "slice",data:=.fields #[vl,vu,.none] } }
 exact tail_any (ops:=[.ref s3.heap.objs.size,v]) ht hT hg (by with_unfolding_all rfl)
noncomputable def cutV (xs:List V) (lo hi:Option Int):List V:=(xs.drop (HT.sIx xs.length 0 lo)).take (HT.sIx xs.length xs.length hi - HT.sIx xs.length 0 lo)
theorem Y8 (xs:List V) (lo hi:Option Int):(cutV xs lo hi).length<=xs.length:=by
 unfold cutV
 rw [List.length_take,List.length_drop]
 omega
noncomputable def rSlT (K:PySem.W.Frag):V->Option Int->Option Int->Hp->VK->Prop:=fun x lo hi H Q=>∃ a xs,x = .ref a/\SqT K H a xs /\
 ¬ (HT.sIx xs.length 0 lo=0/\HT.sIx xs.length xs.length hi=xs.length)/\∀ p,H p=none->Q (.ref p) (upd H p (.tup (cutV xs lo hi)))
theorem sl_tup:SlR X (rSlT X.K):=by
 intro pins s σ H x v vl vu lo hi sl Q I rx hs pl pu h
 obtain ⟨a,xs,rfl,hx,hw,q⟩:=h
 cases rx
 obtain ⟨its,r,ht,hz⟩:=I.tuple hx
 have hlen:its.toArray.size=xs.length:=by rw [List.size_toArray]; exact r.length.symm
 refine ⟨"tuple",_,PyProof.Rows.slot_tuple_getitem.lookup,ht.typeIs,?_⟩
 refine HT.getItem_tuple_cut ht hs pl pu (by rw [hlen]; exact hw) ?_ (by rw [hlen]; exact hz)
 rw [hlen]
 refine ⟨.ref s.heap.objs.size,_,I.laid (t':=s.toks) (o:=.tup (cutV xs lo hi)) (fun b ob q=>Heap.get?_push_of_some _ q) (Nat.le_refl _) ?_,rfl,q _ (I.hok.fresh (Nat.le_refl _))⟩
 exact ⟨Nat.le_trans (Y8 xs lo hi) hz,_,(r.drop (HT.sIx xs.length 0 lo)).take (HT.sIx xs.length xs.length hi - HT.sIx xs.length 0 lo),IsTupN.new _ _⟩
noncomputable def rCatT (K:PySem.W.Frag):R2:=fun x y H Q=>∃ a b xs ys,x = .ref a/\y = .ref b/\SqT K H a xs/\SqT K H b ys/\xs≠[]/\xs.length + ys.length<=sizeLine /\
 (ys=[]->Q (.ref a) H)/\(ys≠[]->∀ p,H p=none->Q (.ref p) (upd H p (.tup (xs ++ ys))))
theorem Vals.nil_iff {xs:List V} {us:List Value} (r:Vals xs us):us=[]<->xs=[]:=by
 cases r with
 | nil=>simp
 | cons _ _=>simp
theorem op_catT:OpR X (binaryOp .Add) (rCatT X.K):=by
 intro pins s σ H x y v u Q I rx ry h
 obtain ⟨a,b,xs,ys,rfl,rfl,ha,hb,hx,hz,q1,q2⟩:=h
 cases rx
 cases ry
 obtain ⟨its,r1,p1,_⟩:=I.tuple ha
 obtain ⟨its2,r2,p2,_⟩:=I.tuple hb
 refine HT.cat_tup p1 p2 (fun z=>hx (r1.nil_iff.mp z)) (fun z=>⟨.ref a,H,I,rfl,q1 (r2.nil_iff.mp z)⟩) (fun z=>?_) (by rw [<- r1.length,<- r2.length]; exact hz)
 refine ⟨.ref s.heap.objs.size,_,I.laid (t':=s.toks) (o:=.tup (xs ++ ys)) (fun b ob q=>Heap.get?_push_of_some _ q) (Nat.le_refl _) ?_,rfl,q2 (fun w=>z (r2.nil_iff.mpr w)) _ (I.hok.fresh (Nat.le_refl _))⟩
 exact ⟨by rw [List.length_append]; exact hz,_,r1.append r2,IsTupN.new _ _⟩
end
end L2
namespace L2
open PySem PySem.Spec PyProof.Rows
noncomputable def ixN (n:Nat) (i:Int):Option Nat:=if 0<=i then (if i < n then some i.toNat else none) else if -(n:Int)<=i then some (i + n).toNat else none
noncomputable def atI {α:Type} (xs:List α) (i:Int):Option α:=(ixN xs.length i).bind fun j=>xs[j]?
theorem Vbs {n:Nat} {i:Int} {j:Nat} (h:ixN n i=some j):seqIndex? i n=some j/\j < n/\-(n:Int)<=i/\i < n:=by
 unfold ixN at h
 by_cases h0:0<=i
 ·rw [if_pos h0] at h
  by_cases h1:i < n
  ·rw [if_pos h1] at h
   have e:i.toNat=j:=Option.some.inj h
   exact ⟨by rw [seqIndex_of h0 h1,e],by omega,by omega,h1⟩
  ·rw [if_neg h1] at h; cases h
 ·rw [if_neg h0] at h
  by_cases h1 : -(n:Int)<=i
  ·rw [if_pos h1] at h
   have e:(i + n).toNat=j:=Option.some.inj h
   exact ⟨by rw [seqIndex_neg (by omega) h1,e],by omega,h1,by omega⟩
  ·rw [if_neg h1] at h; cases h
theorem Vb2 {α:Type} {xs:List α} {i:Int} {v:α} (h:atI xs i=some v):∃ j,seqIndex? i xs.length=some j/\xs[j]? = some v/\j < xs.length/\-(xs.length:Int)<=i/\i < xs.length:=by
 unfold atI at h
 cases e:ixN xs.length i with
 | none=>rw [e] at h; cases h
 | some j =>
  rw [e] at h
  obtain ⟨h1,h2,h3,h4⟩:=Vbs e
  exact ⟨j,h1,h,h2,h3,h4⟩
noncomputable def Za1 (b:Expr):Prop:=∀ o i,subscripted b false o i=operate [o,i] (getItem o i)
noncomputable def IxR (X:Cx) (r:R2):Prop :=
 ∀ (value slice:Expr) (pins:List (Addr×Obj)) (s:Shared) (σ:St) (H:Hp) (x y:V) (v u:Value) (Q:VK),Inv X pins σ H s->RelV x v->RelV y u->r x y H Q ->
  subscripted slice false v u=operate [v,u] (getItem v u)->wpAny (model X.prog X.w) X.A (subscriptTail value slice v u) (EP X pins σ Q) X.xe s
noncomputable def MtR (X:Cx) (id:String) (r:V->List V->Hp->VK->Prop):Prop :=
 ∀ (pins:List (Addr×Obj)) (s:Shared) (σ:St) (H:Hp) (x:V) (xs:List V) (v:Value) (us:List Value) (Q:VK),Inv X pins σ H s->RelV x v->Vals xs us->r x xs H Q ->
  wpAny (model X.prog X.w) X.A (call (.builtin id) (v :: us)) (EP X pins σ Q) X.xe s
section
variable {X:Cx} {a b:Expr} {ta tb:TE} {pos:Pos}
theorem IxR.or {r r':R2} (h:IxR X r) (h':IxR X r'):IxR X (fun x y H Q=>r x y H Q∨r' x y H Q):=by
 intro value slice pins s σ H x y v u Q I rx ry q hs
 rcases q with q | q
 ·exact h value slice pins s σ H x y v u Q I rx ry q hs
 ·exact h' value slice pins s σ H x y v u Q I rx ry q hs
theorem MtR.or {id:String} {r r':V->List V->Hp->VK->Prop} (h:MtR X id r) (h':MtR X id r'):MtR X id (fun x xs H Q=>r x xs H Q∨r' x xs H Q):=by
 intro pins s σ H x xs v us Q I rx rs q
 rcases q with q | q
 ·exact h pins s σ H x xs v us Q I rx rs q
 ·exact h' pins s σ H x xs v us Q I rx rs q
theorem pe_ix {r:R2} (hr:IxR X r) (ha:PE X a ta) (hb:PE X b tb) (hs:Za1 b):PE X (.Subscript a b pos) (tOp r ta tb):=by
 intro pins s σ H Q I h
 exact Subscript_ (binT ha hb I h fun v u s2 x y H2 I2 rx ry q=>hr a b pins s2 σ H2 x y v u Q I2 rx ry q (hs _ _))
noncomputable def rIxL (K:PySem.W.Frag):R2:=fun x y H Q=>∃ p xs i v,x = .ref p/\y = .int i/\SqL K H p xs/\atI xs i=some v/\Q v H
noncomputable def rIxT (K:PySem.W.Frag):R2:=fun x y H Q=>∃ p xs i v,x = .ref p/\y = .int i/\SqT K H p xs/\atI xs i=some v/\Q v H
theorem Wbs:IxR X (rIxL X.K):=by
 intro value slice pins s σ H x y v u Q I rx ry h hs
 obtain ⟨p,xs,i,z,rfl,rfl,hq,he,q⟩:=h
 cases rx
 obtain ⟨t,rfl⟩:=ry
 obtain ⟨its,r,pl,hz⟩:=I.list hq
 obtain ⟨j,h1,h2,h3,h4,h5⟩:=Vb2 he
 obtain ⟨w,ew,rw'⟩:=r.get h2
 have hl:=r.length
 have hn:=Wad
 have fin:EP X pins σ Q w s:=⟨z,H,I,rw',q⟩
 by_cases h0:0<=i
 ·have hj:i.toNat=j:=by
   rw [seqIndex_of h0 h5] at h1
   exact Option.some.inj h1
  exact item_listR pl.isList h0 (by omega) (by rw [hj]; simpa using ew) fin hs
 ·have hj:(i + (its.toArray.size:Int)).toNat=j:=by
   rw [seqIndex_neg (by omega) h4] at h1
   rw [List.size_toArray,<- hl]
   exact Option.some.inj h1
  exact subscriptTail_builtinR (x:=w) pl.isList.typeIs slot_list_getitem.lookup
   (wpAny_getItem_list_neg (Q:=fun r s'=>r=w/\EP X pins σ Q r s') pl.isList (by omega) (by rw [List.size_toArray] <;> omega) (by omega) (by rw [hj]; simpa using ew) ⟨rfl,fin⟩) hs
theorem ix_tup:IxR X (rIxT X.K):=by
 intro value slice pins s σ H x y v u Q I rx ry h hs
 obtain ⟨p,xs,i,z,rfl,rfl,hq,he,q⟩:=h
 cases rx
 obtain ⟨t,rfl⟩:=ry
 obtain ⟨its,r,pl,hz⟩:=I.tuple hq
 obtain ⟨j,h1,h2,h3,h4,h5⟩:=Vb2 he
 obtain ⟨w,ew,rw'⟩:=r.get h2
 have hl:=r.length
 have hn:=Wad
 have fin:EP X pins σ Q w s:=⟨z,H,I,rw',q⟩
 exact subscriptTail_builtinR (x:=w) pl.typeIs slot_tuple_getitem.lookup
  (getItem_tuple (j:=j) (Q:=fun r s'=>r=w/\EP X pins σ Q r s') pl (by omega) (by omega) (by rw [List.size_toArray,<- hl]; exact h1) (by simpa using ew) ⟨rfl,fin⟩) hs
theorem Xbc (its:List Value) (n j:Nat) (u:Value):Obj.mapSeq (·.setIfInBounds j u) { cls:=.type "list",data:=.seq its.toArray n }={ cls:=.type "list",data:=.seq (its.set j u).toArray n }:=by
 simp [Obj.mapSeq]
theorem Inv.lst {pins:List (Addr×Obj)} {σ:St} {H:Hp} {s:Shared} {p:Addr} {xs:List V} (I:Inv X pins σ H s) (h:H p=some (.lst xs)) :
  ∃ (its:List Value) (n:Nat),Vals xs its/\s.heap.get? p=some { cls:=.type "list",data:=.seq its.toArray n }/\xs.length<=sizeLine:=by
 obtain ⟨z,its,n,r,e⟩:=I.hok p _ h
 exact ⟨its,n,r,e,z⟩
theorem Inv.lstUpd {pins:List (Addr×Obj)} {σ:St} {H:Hp} {s:Shared} {p:Addr} {xs ys:List V} {its its':List Value} {n n':Nat} {f:Obj->Obj} (I:Inv X pins σ H s) (h:H p=some (.lst xs))
  (ho:s.heap.get? p=some { cls:=.type "list",data:=.seq its.toArray n }) (hf:f { cls:=.type "list",data:=.seq its.toArray n }={ cls:=.type "list",data:=.seq its'.toArray n' }) (r:Vals ys its') (hz:ys.length<=sizeLine) (t:Nat) :
  Inv X pins σ (upd H p (.lst ys)) { s with heap:=s.heap.update p f,toks:=t }:=by
 have e:(s.heap.update p f).get? p=some { cls:=.type "list",data:=.seq its'.toArray n' }:=by
  rw [Heap.get?_update_self f ho (by rw [hf] <;> rfl),hf]
 refine I.write (x:=p) (e:=p) (by rw [h]; trivial) (.inl rfl) (fun b u hb q=>(Heap.get?_update_other _ _ (Ne.symm hb)).trans q) ⟨_,e⟩ ?_
 exact ⟨hz,its',n',r,e⟩
noncomputable def rSetL:V->V->V->Hp->(Hp->Prop)->Prop:=fun o i v H Q=>∃ p xs k j,o = .ref p/\i = .int k/\H p=some (.lst xs)/\ixN xs.length k=some j/\Q (upd H p (.lst (xs.set j v)))
theorem set_list:PSet X rSetL:=by
 intro pins s σ H o i v ov iv u Q I ro ri rv h
 obtain ⟨p,xs,k,j,rfl,rfl,hp,hj,q⟩:=h
 cases ro
 obtain ⟨t,rfl⟩:=ri
 obtain ⟨its,n,r,ho,hz⟩:=I.lst hp
 obtain ⟨h1,h2,h3,h4⟩:=Vbs hj
 have hl:=r.length
 have hn:=Wad
 have I':Inv X pins σ (upd H p (.lst (xs.set j v))) { s with heap:=s.heap.update p (Obj.mapSeq (·.setIfInBounds j u)) } :=
  I.lstUpd hp ho (Xbc its n j u) (r.set rv j) (by rw [List.length_set]; exact hz) s.toks
 by_cases h0:0<=k
 ·have hk:k.toNat=j:=by
   rw [seqIndex_of h0 h4] at h1
   exact Option.some.inj h1
  exact PySem.W.ki_setAt ho h0 (by omega) (by rw [List.size_toArray,<- hl]; exact h4) (by rw [hk]; exact ⟨_,I',q⟩)
 ·have hk:(k + (its.toArray.size:Int)).toNat=j:=by
   rw [seqIndex_neg (by omega) h3] at h1
   rw [List.size_toArray,<- hl]
   exact Option.some.inj h1
  exact PySem.W.ki_setBack ho (by omega) (by rw [List.size_toArray,<- hl]; exact h3) (by omega) (by rw [hk]; exact ⟨_,I',q⟩)
theorem Xal (lo hi:Option Int) (n:Nat):(sliceBounds lo hi none n).1=((HT.sIx n 0 lo:Nat):Int)/\(sliceBounds lo hi none n).2.1=((HT.sIx n n hi:Nat):Int)/\(sliceBounds lo hi none n).2.2=1:=by
 refine ⟨?_,?_,rfl⟩
 ·cases lo with
  | none=>simp [sliceBounds,HT.sIx]
  | some i =>
   simp only [sliceBounds,HT.sIx,Option.getD_none,show (1:Int) > 0 by decide,if_true]
   by_cases h:i < 0
   ·simp only [h,if_true] <;> omega
   ·simp only [h,if_false] <;> omega
 ·cases hi with
  | none=>simp [sliceBounds,HT.sIx]
  | some i =>
   simp only [sliceBounds,HT.sIx,Option.getD_none,show (1:Int) > 0 by decide,if_true]
   by_cases h:i < 0
   ·simp only [h,if_true] <;> omega
   ·simp only [h,if_false] <;> omega
theorem Yag (its:List Value) (lo hi:Option Int):slicePick its.toArray lo hi none=((its.drop (HT.sIx its.length 0 lo)).take (HT.sIx its.length its.length hi - HT.sIx its.length 0 lo)).toArray:=by
 obtain ⟨h1,h2,h3⟩:=Xal lo hi its.toArray.size
 unfold slicePick
 rw [h1,h2,h3]
 simp only [sliceRange_one,pick_run,List.size_toArray] <;> rfl
noncomputable def rSlL (K:PySem.W.Frag):V->Option Int->Option Int->Hp->VK->Prop:=fun x lo hi H Q=>∃ a xs,x = .ref a/\SqL K H a xs/\∀ p,H p=none->Q (.ref p) (upd H p (.lst (cutV xs lo hi)))
theorem sl_list:SlR X (rSlL X.K):=by
 intro pins s σ H x v vl vu lo hi sl Q I rx hs pl pu h
 obtain ⟨a,xs,rfl,hx,q⟩:=h
 cases rx
 obtain ⟨its,r,ht,hz⟩:=I.list hx
 have hlen:=r.length
 refine ⟨"list",_,slot_list_getitem.lookup,ht.isList.typeIs,?_⟩
 refine wpAny_getItem_list_slice ht.isList hs pl pu .none (by simp) ?_ (by rw [List.size_toArray] <;> omega)
 rw [Yag,<- hlen]
 refine ⟨.ref s.heap.objs.size,_,I.laid (t':=s.toks) (o:=.lst (cutV xs lo hi)) (fun b ob q=>Heap.get?_push_of_some _ q) (Nat.le_refl _) ?_,rfl,q _ (I.hok.fresh (Nat.le_refl _))⟩
 exact ⟨Nat.le_trans (Y8 xs lo hi) hz,_,0,(r.drop (HT.sIx xs.length 0 lo)).take (HT.sIx xs.length xs.length hi - HT.sIx xs.length 0 lo),Heap.get?_push_size _ rfl⟩
theorem Zaq:CallR X (.builtin "len") (fun xs H Q=>∃ p ys,xs=[.ref p]/\(SqL X.K H p ys∨SqT X.K H p ys)/\Q (.int ys.length) H):=by
 intro pins s σ H xs us Q I r h
 obtain ⟨p,ys,rfl,hq,q⟩:=h
 obtain ⟨u,rfl,rx⟩:=vals1 r
 cases rx
 have hn:=Wad
 rcases hq with hq | hq
 ·obtain ⟨its,r',pl,hz⟩:=I.list hq
  have hlen:=r'.length
  exact Calls.call_len_list pl.isList (by simp only [List.size_toArray] <;> omega) ⟨.int ys.length,H,I.tok _,⟨s.toks + 1,by rw [List.size_toArray,hlen]⟩,q⟩
 ·obtain ⟨its,r',pl,hz⟩:=I.tuple hq
  have hlen:=r'.length
  exact len_tuple pl (by simp only [List.size_toArray] <;> omega) ⟨.int ys.length,H,I.tok _,⟨s.toks + 1,by rw [List.size_toArray,hlen]⟩,q⟩
theorem CallR.or {f:Value} {r r':List V->Hp->VK->Prop} (h:CallR X f r) (h':CallR X f r'):CallR X f (fun xs H Q=>r xs H Q∨r' xs H Q):=by
 intro pins s σ H xs us Q I rs q
 rcases q with q | q
 ·exact h pins s σ H xs us Q I rs q
 ·exact h' pins s σ H xs us Q I rs q
theorem Z1:CallR X (.type "list") (fun xs H Q=>∃ p ys,xs=[.ref p]/\(SqL X.K H p ys∨SqT X.K H p ys)/\∀ l,H l=none->Q (.ref l) (upd H l (.lst ys))):=by
 intro pins s σ H xs us Q I r h
 obtain ⟨p,ys,rfl,hq,q⟩:=h
 obtain ⟨u,rfl,rx⟩:=vals1 r
 cases rx
 have fin:∀ (its:List Value),Vals ys its->ys.length<=sizeLine->∀ (h':Heap) (c':Nat),(∀ b o',s.heap.get? b=some o'->h'.get? b=some o') ->
   h'.get? s.heap.objs.size=some { cls:=.type "list",dict:=none,data:=.seq its.toArray c',slots:=#[] }->EP X pins σ Q (.ref s.heap.objs.size) { s with heap:=h' }:=fun its r' hz h' c' kp e =>
  ⟨.ref s.heap.objs.size,_,I.laid (t':=s.toks) kp (Nat.le_refl _) (show ObjOk X.prog X.w _ h' _ (.lst ys) from ⟨hz,its,c',r',e⟩),rfl,q _ (I.hok.fresh (Nat.le_refl _))⟩
 rcases hq with hq | hq
 ·obtain ⟨its,r',pl,hz⟩:=I.list hq
  have hlen:=r'.length
  obtain ⟨o,ho,hc,n,hd⟩:=pl.isList
  exact call_list_seq p (.inl rfl) ho hc hd (fun h' c' kp e=>fin its r' hz h' c' kp e) (by simp only [List.size_toArray] <;> omega)
 ·obtain ⟨its,r',pl,hz⟩:=I.tuple hq
  have hlen:=r'.length
  obtain ⟨o,ho,hc,n,hd⟩:=pl
  exact call_list_seq p (.inr rfl) ho hc hd (fun h' c' kp e=>fin its r' hz h' c' kp e) (by simp only [List.size_toArray] <;> omega)
theorem Yy:CallR X (.type "tuple") (fun xs H Q=>∃ p ys,xs=[.ref p]/\((SqL X.K H p ys/\∀ l,H l=none->Q (.ref l) (upd H l (.tup ys)))∨(SqT X.K H p ys/\Q (.ref p) H))):=by
 intro pins s σ H xs us Q I r h
 obtain ⟨p,ys,rfl,h⟩:=h
 obtain ⟨u,rfl,rx⟩:=vals1 r
 cases rx
 rcases h with ⟨hq,q⟩ | ⟨hq,q⟩
 ·obtain ⟨its,r',pl,hz⟩:=I.list hq
  have hlen:=r'.length
  refine call_tuple_list pl.isList (fun h' kp=>?_) (by simp only [List.size_toArray] <;> omega)
  have I1:Inv X pins σ H { s with heap:=h' }:=I.kept (t':=s.toks) kp
  have I2:Inv X pins σ (upd H h'.objs.size (.tup ys)) { s with heap:=h'.push { cls:=.type "tuple",data:=.seq its.toArray } } :=
   I1.laid (t':=s.toks) (fun b o e=>Heap.get?_push_of_some _ e) (Nat.le_refl _) (show ObjOk X.prog X.w _ _ _ (.tup ys) from ⟨hz,its,r',IsTupN.new _ _⟩)
  exact ⟨.ref h'.objs.size,_,I2,rfl,q _ (I1.hok.fresh (Nat.le_refl _))⟩
 ·obtain ⟨its,r',pl,hz⟩:=I.tuple hq
  exact call_tuple_same pl ⟨.ref p,H,I,rfl,q⟩
noncomputable def tyV (K:PySem.W.Frag) (T:String) (x:V) (H:Hp):Prop:=match x with
 | .str _=>T = "str"
 | .int _=>T = "int"
 | .ref p=>(T = "list"/\∃ xs,SqL K H p xs)∨(T = "tuple"/\((∃ o,K.lookup p=some o/\o.cls = .type "tuple"/\o.dict=none)∨∃ xs,H p=some (.tup xs))) ∨
   (T = "dict"/\((∃ kvs,H p=some (.dK kvs))∨∃ kvs,H p=some (.dT kvs)))∨(T = "set"/\∃ S n,H p=some (.set S n))
 | _=>False
theorem tyV_is {pins:List (Addr×Obj)} {σ:St} {H:Hp} {s:Shared} {T:String} {x:V} {v:Value} (I:Inv X pins σ H s) (r:RelV x v) (ty:tyV X.K T x H) :
  s.TypeIs v T/\∀ a,v = .ref a->∃ ob,s.heap.get? a=some ob/\ob.dict=none:=by
 cases x with
 | str z =>
  obtain ⟨t,rfl⟩:=r
  cases (show T = "str" from ty)
  exact ⟨typeIs_str s z t,fun _ e=>nomatch e⟩
 | int i =>
  obtain ⟨t,rfl⟩:=r
  cases (show T = "int" from ty)
  exact ⟨typeIs_int s i t,fun _ e=>nomatch e⟩
 | ref p =>
  cases r
  rcases ty with ⟨rfl,xs,hq⟩ | ⟨rfl,⟨o,hk,hc,hd⟩ | ⟨xs,hk⟩⟩ | ⟨rfl,hk⟩ | ⟨rfl,S,n,hk⟩
  ·obtain ⟨its,_,pl,_⟩:=I.list hq
   refine ⟨pl.isList.typeIs,fun a e=>?_⟩
   cases e
   obtain ⟨o,n,e,c,hd,_⟩:=pl
   exact ⟨o,e,hd⟩
  ·refine ⟨⟨o,I.kIn p o hk,hc⟩,fun a e=>?_⟩
   cases e
   exact ⟨o,I.kIn _ o hk,hd⟩
  ·obtain ⟨_,_,_,o,e,c,_,_,hd⟩:=I.hok p _ hk
   refine ⟨⟨o,e,c⟩,fun a e2=>?_⟩
   cases e2
   exact ⟨o,e,hd⟩
  ·have z:∃ o,s.heap.get? p=some o/\o.ExactDict:=by
    rcases hk with ⟨kvs,hk⟩ | ⟨kvs,hk⟩
    ·obtain ⟨_,_,_,_,o,_,_,e,ex,_⟩:=I.hok p _ hk
     exact ⟨o,e,ex⟩
    ·obtain ⟨_,_,_,_,o,_,_,e,ex,_⟩:=I.hok p _ hk
     exact ⟨o,e,ex⟩
   obtain ⟨o,e,ex⟩:=z
   refine ⟨⟨o,e,ex.1⟩,fun a e2=>?_⟩
   cases e2
   exact ⟨o,e,ex.2.1⟩
  ·obtain ⟨o,_,_,_,e,ex,_⟩:=I.hok p _ hk
   refine ⟨⟨o,e,ex.1⟩,fun a e2=>?_⟩
   cases e2
   exact ⟨o,e,ex.2.1⟩
 | _=>exact False.elim ty
noncomputable def tBM0 (K:PySem.W.Frag) (T:String) (r:V->List V->Hp->VK->Prop) (to:TE):TE:=fun σ H Q=>to σ H fun x H1=>tyV K T x H1/\r x [] H1 Q
noncomputable def tBM (K:PySem.W.Frag) (T:String) (r:V->List V->Hp->VK->Prop) (to:TE) (t:TA):TE:=fun σ H Q=>to σ H fun x H1=>tyV K T x H1/\t σ H1 fun xs H2=>r x xs H2 Q
variable {o e:Expr} {es:List Expr} {to:TE} {t:TA} {name:Str} {apos cpos:Pos} {T id:String} {r:V->List V->Hp->VK->Prop}
theorem pe_bm0 (pa:PlainAttrs T) (slot:Slot T name id) (hty:typeOf (.builtin id)=pure (.type "method_descriptor")) (hm:MtR X id r) (ho:PE X o to)
  (hbase:attributeBase o name X.env (eval o X.env)=eval o X.env:=by rfl) (hline:(apos.endLine == cpos.line)=true:=by rfl):PE X (.Call (.Attribute o name apos) [] [] cpos) (tBM0 X.K T r to):=by
 intro pins s σ H Q I h
 refine wpAny_Call_method0_late hbase hline (thn (ho pins s σ H _ I h) fun v s1 ⟨x,H1,I1,r1,ty,q1⟩=>?_)
 obtain ⟨h1,h2⟩:=tyV_is I1 r1 ty
 exact ⟨T,id,pa,slot,hty,h1,h2,Calls.callWith_builtin rfl (PySem.evalArgs_none (hm pins s1 σ H1 x [] v [] Q I1 r1 .nil q1))⟩
theorem pe_bm (pa:PlainAttrs T) (slot:Slot T name id) (hty:typeOf (.builtin id)=pure (.type "method_descriptor")) (hm:MtR X id r) (ho:PE X o to) (ha:PA X (e :: es) t)
  (hbase:attributeBase o name X.env (eval o X.env)=eval o X.env:=by rfl)
  (hfew:((backTo cpos (starEach (e :: es) X.env)).all (fun x=>!x.1) && (backToKw cpos (keywordEach [] X.env)).all (fun x=>x.1.isSome)
   && decide ((e :: es).length + ([]:List Keyword).length + (if ([]:List Keyword).isEmpty then 0 else 1) < 30))=true:=by rfl)
  (hline:(apos.endLine == cpos.line)=true:=by rfl) (hs:starEach (e :: es) X.env=(false,eval e X.env) :: starEach es X.env:=by rfl) (hplain:(backTo cpos (starEach es X.env)).any (·.1)=false:=by rfl) :
  PE X (.Call (.Attribute o name apos) (e :: es) [] cpos) (tBM X.K T r to t):=by
 intro pins s σ H Q I h
 refine wpAny_Call_method_late hbase hfew hline rfl (thn (ho pins s σ H _ I h) fun v s1 ⟨x,H1,I1,r1,ty,q1⟩=>?_)
 obtain ⟨h1,h2⟩:=tyV_is I1 r1 ty
 refine ⟨T,id,pa,slot,hty,h1,h2,?_⟩
 have hA:=ha cpos pins s1 σ H1 _ I1 q1
 rw [hs] at hA ⊢
 refine Calls.callWith_builtin (by show (false || (backTo cpos (starEach es X.env)).any (·.1))=false; rw [hplain] <;> rfl) (Calls.evalArgs_plain ?_)
 exact thn hA fun us s2 ⟨vs,H2,I2,r2,q2⟩=>hm pins s2 σ H2 x vs v us Q I2 r1 r2 q2
/- xs.append(e),list.index on a module's tuple .. are MtR facts of 06m -/
end
end L2
namespace L2
open PySem PySem.Spec PyProof.Rows
noncomputable def MtM (X:Cx) (id:String) (r:V->List V->Hp->VK->Prop):Prop :=
 ∀ (pins:List (Addr×Obj)) (s:Shared) (σ:St) (H:Hp) (x:V) (xs:List V) (v:Value) (us:List Value) (Q:VK),Inv X pins σ H s->RelV x v->Vals xs us->r x xs H Q ->
  wpAny (model X.prog X.w) X.A (call (.builtin id) (v :: us)) (EP X pins σ Q) X.xe s
theorem Vals.one:∀ {x:V} {us:List Value},Vals [x] us->∃ u,us=[u]/\RelV x u
 | _,_,.cons r .nil=>⟨_,rfl,r⟩
theorem Vals.two:∀ {x y:V} {us:List Value},Vals [x,y] us->∃ u v,us=[u,v]/\RelV x u/\RelV y v
 | _,_,_,.cons r (.cons q .nil)=>⟨_,_,rfl,r,q⟩
theorem Vals.zero:∀ {us:List Value},Vals [] us->us=[]
 | _,.nil=>rfl
theorem Vals.dropLast {xs:List V} {us:List Value} (h:Vals xs us):Vals xs.dropLast us.dropLast:=by
 induction h with
 | nil=>exact .nil
 | cons r t ih =>
  cases t with
  | nil=>exact .nil
  | cons q t'=>exact .cons r ih
theorem Vals.eraseIdx:∀ {xs:List V} {us:List Value} (i:Nat),Vals xs us->Vals (xs.eraseIdx i) (us.eraseIdx i)
 | _,_,_,.nil=>.nil
 | _,_,0,.cons _ t=>t
 | _,_,i + 1,.cons r t=>.cons r (Vals.eraseIdx i t)
theorem Vals.reverse {xs:List V} {us:List Value} (h:Vals xs us):Vals xs.reverse us.reverse:=by
 induction h with
 | nil=>exact .nil
 | cons r t ih=>rw [List.reverse_cons,List.reverse_cons]; exact Vals.append ih (.cons r .nil)
theorem Vals.rep {xs:List V} {us:List Value} (h:Vals xs us):∀ k:Nat,Vals (List.replicate k xs).flatten (List.replicate k us).flatten
 | 0=>.nil
 | k + 1=>by
  rw [List.replicate_succ,List.replicate_succ,List.flatten_cons,List.flatten_cons]
  exact Vals.append h (Vals.rep h k)
theorem Ybe {α:Type} (l:List α):l.eraseIdx (l.length - 1)=l.dropLast:=by
 induction l with
 | nil=>rfl
 | cons a r ih =>
  cases r with
  | nil=>rfl
  | cons b r =>
   have e:(a :: b :: r).length - 1=((b :: r).length - 1) + 1:=by
    have h1:(a :: b :: r).length=r.length + 2:=rfl
    have h2:(b :: r).length=r.length + 1:=rfl
    omega
   rw [e,List.eraseIdx_cons_succ,ih]
   all_goals rfl
theorem Xan {α:Type}:∀ (l:List α) (i:Nat),(l.eraseIdx i).length<=l.length
 | [],_=>Nat.le_refl _
 | _ :: _,0=>Nat.le_succ _
 | _ :: r,i + 1=>Nat.succ_le_succ (Xan r i)
section
variable {X:Cx} {pins:List (Addr×Obj)} {σ:St} {H:Hp} {s:Shared} {l b:Addr} {xs ys zs:List V}
theorem Inv.lset {its its':List Value} {n:Nat} {f:Array Value->Array Value} {t':Nat} (I:Inv X pins σ H s) (hH:H l=some (.lst xs))
  (e:s.heap.get? l=some { cls:=.type "list",data:=.seq its.toArray n }) (hf:f its.toArray=its'.toArray) (hv:Vals ys its') (hz:ys.length<=sizeLine) :
  Inv X pins σ (upd H l (.lst ys)) { s with heap:=s.heap.update l (Obj.mapSeq f),toks:=t' }:=by
 have q:=PySem.IsL.update e f
 rw [hf] at q
 refine I.write (x:=l) (e:=l) (by rw [hH]; exact trivial) (.inl rfl) (fun b' u hb hu=>(Heap.get?_update_other s.heap (Obj.mapSeq f) (Ne.symm hb)).trans hu) ⟨_,q⟩ ?_
 exact ⟨hz,its',_,hv,q⟩
theorem Inv.lnew {its:List Value} {t':Nat} (I:Inv X pins σ H s) (hv:Vals ys its) (hz:ys.length<=sizeLine) :
  Inv X pins σ (upd H s.heap.objs.size (.lst ys)) { s with heap:=s.heap.push { cls:=.type "list",data:=.seq its.toArray },toks:=t' } :=
 I.laid (fun _ _ q=>Heap.get?_push_of_some _ q) (Nat.le_refl _) ⟨hz,its,0,hv,Heap.get?_push_size _ rfl⟩
theorem Inv.fresh (I:Inv X pins σ H s):H s.heap.objs.size=none:=I.hok.fresh (Nat.le_refl _)
theorem Inv.lstM (I:Inv X pins σ H s) (hH:H l=some (.lst xs)):xs.length<=sizeLine/\∃ (its:List Value) (n:Nat),Vals xs its/\xs.length=its.length/\s.heap.get? l=some { cls:=.type "list",data:=.seq its.toArray n }:=by
 obtain ⟨z,its,n,r,e⟩:=I.hok l _ hH
 exact ⟨z,its,n,r,r.length,e⟩
end
section
variable {X:Cx}
noncomputable def rAppend:V->List V->Hp->VK->Prop:=fun x vs H Q=>∃ l xs y,x = .ref l/\vs=[y]/\H l=some (.lst xs)/\xs.length < sizeLine/\Q .non (upd H l (.lst (xs ++ [y])))
theorem Xbq:MtM X "list.append" rAppend:=by
 intro pins s σ H x vs v us Q I rx rv h
 obtain ⟨l,xs,y,rfl,rfl,hH,hz,q⟩:=h
 cases rx
 obtain ⟨u,rfl,ru⟩:=rv.one
 obtain ⟨z,its,n,r,hl,e⟩:=I.lstM hH
 refine call_meets F.slot_list_append ⟨_,e,rfl⟩ F.entry_list_append (F.args_list_append_2 _ _) (PySem.list_append l its.toArray n u (by rw [List.size_toArray]; omega)) ⟨e,?_⟩
 refine ⟨.non,_,I.lset (its':=its ++ [u]) hH e (by simp) (r.append (.cons ru .nil)) ?_,rfl,q⟩
 rw [List.length_append,List.length_singleton]
 omega
noncomputable def rPop:V->List V->Hp->VK->Prop:=fun x vs H Q=>∃ l xs y,x = .ref l/\vs=[]/\H l=some (.lst xs)/\xs[xs.length - 1]? = some y/\Q y (upd H l (.lst xs.dropLast))
theorem mt_pop:MtM X "list.pop" rPop:=by
 intro pins s σ H x vs v us Q I rx rv h
 obtain ⟨l,xs,y,rfl,rfl,hH,hy,q⟩:=h
 cases rx
 have hus:=rv.zero
 subst hus
 obtain ⟨z,its,n,r,hl,e⟩:=I.lstM hH
 obtain ⟨u,hu,ru⟩:=r.get hy
 have hy':its.toArray[its.toArray.size - 1]? = some u:=by
  show its.toArray[its.length - 1]? = some u
  rw [<- Array.getElem?_toList,<- hl]
  exact hu
 refine call_meets F.slot_list_pop ⟨_,e,rfl⟩ F.entry_list_pop (F.args_list_pop_1 _) (MeetsSeq.list_pop_last l its.toArray n u hy' (by rw [List.size_toArray]; omega)) ⟨e,?_⟩
 refine ⟨y,_,I.lset (its':=its.dropLast) hH e ?_ r.dropLast ?_,ru,q⟩
 ·show its.toArray.eraseIdxIfInBounds (its.toArray.size - 1)=its.dropLast.toArray
  rw [List.size_toArray,List.eraseIdxIfInBounds_toArray,Ybe]
 ·rw [List.length_dropLast]
  omega
noncomputable def rPopAt:V->List V->Hp->VK->Prop:=fun x vs H Q=>∃ l xs i k y,x = .ref l/\vs=[.int i]/\H l=some (.lst xs)/\-(2 ^ 63)<=i/\i < 2 ^ 63/\seqIndex? i xs.length=some k/\xs[k]? = some y/\Q y (upd H l (.lst (xs.eraseIdx k)))
theorem Ycf:MtM X "list.pop" rPopAt:=by
 intro pins s σ H x vs v us Q I rx rv h
 obtain ⟨l,xs,i,k,y,rfl,rfl,hH,h1,h2,hk,hy,q⟩:=h
 cases rx
 obtain ⟨u,rfl,ru⟩:=rv.one
 obtain ⟨t,rfl⟩:=ru
 obtain ⟨z,its,n,r,hl,e⟩:=I.lstM hH
 obtain ⟨w,hw,rw'⟩:=r.get hy
 refine call_meets F.slot_list_pop ⟨_,e,rfl⟩ F.entry_list_pop (F.args_list_pop_2 _ _)
  (MeetsSeq.list_pop_at l its.toArray n i t k w (fitsIndex_both h1 h2) (by rw [List.size_toArray,<- hl]; exact hk) (by rw [<- Array.getElem?_toList]; exact hw) (by rw [List.size_toArray]; omega)) ⟨e,?_⟩
 refine ⟨y,_,I.lset (its':=its.eraseIdx k) hH e ?_ (r.eraseIdx k) ?_,rw',q⟩
 ·show its.toArray.eraseIdxIfInBounds k=(its.eraseIdx k).toArray
  rw [List.eraseIdxIfInBounds_toArray]
 ·have:=Xan xs k
  omega
noncomputable def rCat:R2:=fun x y H Q=>∃ l b xs zs,x = .ref l/\y = .ref b/\H l=some (.lst xs)/\H b=some (.lst zs)/\xs.length + zs.length<=sizeLine/\∀ p,H p=none->Q (.ref p) (upd H p (.lst (xs ++ zs)))
theorem op_cat:OpR X (binaryOp .Add) rCat:=by
 intro pins s σ H x y v u Q I rx ry h
 obtain ⟨l,b,xs,zs,rfl,rfl,hH,hB,hz,q⟩:=h
 cases rx
 cases ry
 obtain ⟨z,its,n,r,hl,e⟩:=I.lstM hH
 obtain ⟨z2,its2,n2,r2,hl2,e2⟩:=I.lstM hB
 refine PySem.P.add_list e e2 ?_ (by rw [List.size_toArray,List.size_toArray]; omega)
 have ea:its.toArray ++ its2.toArray=(its ++ its2).toArray:=by simp
 rw [ea]
 exact ⟨.ref _,_,I.lnew (t':=s.toks) (r.append r2) (by rw [List.length_append]; omega),rfl,q _ I.fresh⟩
end
section
variable {prog:Program} {w:World} {A:Around} {E:Value->Shared->Prop} {s:Shared}
end
section
variable {X:Cx}
end
end L2
namespace Att
open PySem PySem.W PySem.Calls PyProof.Rows
theorem Z7 {P:Params} {h:Heap}:∀ (ns:List Int) (vs:List Value),WellAll P h vs (ns.map WData.int)->IntsAre vs ns:=by
 intro ns
 induction ns with
 | nil =>
  intro vs w
  rw [List.map_nil] at w
  cases w
  exact .nil
 | cons n ns ih =>
  intro vs w
  rw [List.map_cons] at w
  cases w with
  | cons a b =>
   cases a
   exact .cons _ _ (ih _ b)
theorem Wbl {l:OpenLaw} {n:Nat} (hn:l.most=some n) {P:Params} {h:Heap} {args:List WData} {vals:List Value}
  (hpre:l.row.toRowW.claim.pre args=true) (hwl:WellAll P h vals args) :
  ∃ a vs ns,vals=[Value.ref a]/\args=[WData.list (ns.map WData.int)]/\h.get? a=some { cls:=.type "list",data:=.seq vs.toArray }/\IntsAre vs ns/\ns.length<=n:=by
 have hsh:WShape.hasAll [] args [.list .int]=true:=(pre_splitW hpre).1
 have hc:l.pre.holds [] { args:=args }=true:=(pre_splitW hpre).2
 obtain ⟨d,r,rfl,h1,h2⟩:=hasAllW_cons hsh
 obtain rfl:=hasAllW_nil h2
 obtain ⟨xs,rfl,h3⟩:=hasW_list h1
 obtain ⟨ns,rfl⟩:=items_int h3
 have hlen:ns.length<=n:=by
  unfold OpenLaw.pre at hc
  have h4:(WTm.not (.lt (.lit (.int (n:Int))) (.len (.arg 0)))).holds [] { args:=[.list (ns.map .int)] }=true:=by
   have h4:=(holds_andW hc).1
   rw [hn] at h4
   exact h4
  have h5:=condW_of h4 (w_not (w_lt w_lit (w_len_list (w_arg rfl))))
  rw [List.length_map] at h5
  refine Nat.le_of_not_lt fun q=>?_
  have q':(n:Int) < ((ns.length:Nat):Int):=by omega
  first
   | (rw [decide_eq_true q'] at h5; exact absurd h5 (by decide))
   | (simp at h5; omega)
 cases hwl with
 | cons w1 w2 =>
  cases w2
  cases w1 with
  | list ho hall=>exact ⟨_,_,ns,rfl,rfl,ho,Z7 ns _ hall,hlen⟩
theorem Wbn (l:OpenLaw) (args:List WData):l.row.toRowW.claim.post args (.bool true) args=true :=
 postW_of (r:=l.row.toRowW) (X:=(true == true))
  (show WShape.has [] (.bool true) .bool=true by first | rfl | decide | simp [WShape.has,WShape.arms,WShape.armsAll])
  (show (WTm.eq .res (.lit (.bool true))).value [] { args:=args,res:=some (.bool true),after:=args }=some (.bool (true == true)) from w_eq_bool (w_res rfl) w_lit) rfl
theorem attach_call {l:OpenLaw} {n:Nat} {q:Program} {loose:List Str} {XP:(Str->Option Value)->Heap->Prop} {YP:World->Heap->Prop} {d:DefRec}
  (hn:l.most=some n) (hdf:d.params.defaults=[])
  (call:∀ (w:World) (s₀ s₁:Shared) (mg mb:Str->Option Value) (fa:Addr) (o:Obj) (pm cd doc:Value) (a:Addr) (vs:List Value) (ns:List Int),
   Ground q loose [] XP w s₀ mg mb s₁.heap->YP w s₁.heap ->
   s₁.heap.get? fa=some o->o.data = .func (docDef d.name d.params d.body d.scope pm cd doc)->s₁.heap.CodeRec cd d.name->mg d.name=some (.ref fa) ->
   s₁.heap.get? a=some { cls:=.type "list",data:=.seq vs.toArray }->IntsAre vs ns->ns.length<=n->s₁.gens = #[] ->
   codeAny (model l.prog w) callerA (.call (.ref fa) ⟨[.ref a],[]⟩) (fun r s'=>r = .ok (.ret (.bool true))/\OldK s₁.heap s'.heap/\s'.os=s₁.os/\AllBare s'.gens) s₁) :
  WalkO q loose XP YP l.row.toRowW d [] (fun f vs=>PySem.call f vs):=by
 intro w s₀ s₁ mg mb G Y fa o pm cd doc dV kV ho hd hcd hD hmg hg args vals as hpre hlay hrd hwl hlo
 obtain rfl:dV = .none:=Dflts.none hD hdf
 obtain rfl:kV = .none:=Dflts.noKw hD
 obtain ⟨a,vs,ns,rfl,rfl,hobj,hints,hlen⟩:=Wbl hn hpre hwl
 refine enter_call (codeAny_mono (call w s₀ s₁ mg mb fa o pm cd doc a vs ns G Y ho (fd_plain hd) hcd hmg hobj hints hlen hg) fun r s' hq=>?_)
 obtain ⟨rfl,h2,h3,h4⟩:=hq
 exact ⟨.inl ⟨.bool true,.bool true,[],rfl,fun _=>rfl,.bool true,Wbn l _,fun _=>⟨List.Pairwise.nil,fun _ hm=>(nomatch hm)⟩⟩,h2,h3,h4⟩
section
variable {prog:Program} {w:World} {A:Around} {E:Value->Shared->Prop} {s:Shared} {K:Frag}
noncomputable def ledger (h:Heap) (L d:Addr):List (Addr×Obj):=(List.range h.objs.size).filterMap fun a=>if a=L∨a=d then none else (h.get? a).map fun o=>(a,o)
end
end Att
namespace L2
open PySem PySem.Spec PyProof.Rows
theorem vals_ints:∀ {vs:List Value} {ns:List Int},IntsAre vs ns->Vals (ns.map V.int) vs
 | _,_,.nil=>.nil
 | _,_,.cons n t h=>.cons ⟨t,rfl⟩ (vals_ints h)
noncomputable def Only (H:Hp):Prop:=∀ b,H b=none∨∃ o xs,H b=some (.frz o (.lst xs))
theorem Ych {P:Program} {w:World} {K:PySem.W.Frag} {mg mb:Str->Option Value} {CX:CXT} {k:Nat} {fa a:Addr} {fd:FuncData} {x:Str} {sp:Sp} {s₁:Shared} {vs:List Value} {ns:List Int}
  (KX:K.In s₁.heap) (hns:s₁.heap.Ns mainGlobals mg) (hb:s₁.heap.Ns builtinsNs mb) (hbb:∀ x:Str,x≠"__name__"->mb x=bootBuiltins x) (hlim:s₁.heap.NoLimit) (hsy:∃ mm,s₁.heap.Ns sysModules mm) (hg:s₁.gens = #[])
  (ha:s₁.heap.get? a=some { cls:=.type "list",data:=.seq vs.toArray }) (hi:IntsAre vs ns) (hl:ns.length<=sizeLine) (hr:Room k callerA)
  (F:∀ base:Heap,K.In base->base.Ns mainGlobals mg->FnOk P w K mg base CX k fa fd [x] sp) (hbind:∀ (s:Shared) (u:Value),BindsTo s fd ⟨[u],[]⟩ [(x,u)])
  (hsp:∀ H:Hp,Only H->SqL K H a (ns.map V.int)->sp [.ref a] H (fun v _=>v = .bl true) fun _ _ _=>False)
  (hCX:∀ H e s',CX [] H s₁ (fun _ _ _=>False) e s'->False) :
  codeAny (model P w) callerA (.call (.ref fa) ⟨[.ref a],[]⟩) (fun r s'=>r = .ok (.ret (.bool true))/\OldK s₁.heap s'.heap/\s'.os=s₁.os/\AllBare s'.gens) s₁:=by
 have rv:=vals_ints hi
 have lenV:=hi.length
 have core:∀ H:Hp,Only H->SqL K H a (ns.map V.int)->HOk P w H s₁.heap->(∀ b,H b≠none->b=a)->(H a≠none->K.lookup a=none) ->
   codeAny (model P w) callerA (.call (.ref fa) ⟨[.ref a],[]⟩) (fun r s'=>r = .ok (.ret (.bool true))/\OldK s₁.heap s'.heap/\s'.os=s₁.os/\AllBare s'.gens) s₁:=by
  intro H hO hS hok hA hK
  have Yq:∀ {b:Addr} {o:Obj},s₁.heap.get? b=some o->H b=none->(hidT s₁.heap H).get? b=some o:=fun e n=>Wa5 e n
  have noA:∀ {b:Addr} {o:Obj} {es:Array DictEntry} {ep:Nat},s₁.heap.get? b=some o->o.data = .dict es ep->H b=none:=fun {b o es ep} e d=>by
   cases q:H b with
   | none=>rfl
   | some u =>
    have e':b=a:=hA b (by rw [q]; simp)
    subst e'
    rw [ha] at e; cases e
    have d':Data.seq vs.toArray _=Data.dict es ep:=d
    cases d'
  have nsK:∀ {b:Addr} {m:Str->Option Value},s₁.heap.Ns b m->(hidT s₁.heap H).Ns b m:=fun {b m} ⟨o,es,ep,e,d,r⟩=>⟨o,es,ep,Yq e (noA e d),d,r⟩
  have hKb:K.In (hidT s₁.heap H):=fun b o e=>Yq (KX b o e) (by
   cases q:H b with
   | none=>rfl
   | some u =>
    have e':b=a:=hA b (by rw [q]; simp)
    subst e'
    rw [hK (by rw [q]; simp)] at e; cases e)
  have hM:Mod K mg (hidT s₁.heap H):=⟨hKb,nsK hns,⟨mb,nsK hb,hbb⟩,let ⟨mc,h1,h2⟩:=hlim; ⟨mc,nsK h1,h2⟩,let ⟨mm,h1⟩:=hsy; ⟨mm,nsK h1⟩⟩
  have e0:Env0 P w K mg (hidT s₁.heap H) callerA [] s₁ H:=⟨rfl,hM,fun b o e=>Zbq e,Nat.le_of_eq (Wao _ _),trivial,fun b hb=>absurd (show b∈([]:List Addr) from hb) (by simp),hok,.of_eq hg,fun v q=>nomatch q⟩
  refine codeAny_mono ((F _ hKb (nsK hns)).run callerA [] s₁ H ⟨[.ref a],[]⟩ [.ref a] [.ref a] _ _ hr e0 (hbind s₁ (.ref a)) (.cons rfl .nil) (hsp H hO hS)) fun r s' h=>?_
  cases r with
  | error e=>exact (hCX H e s' h).elim
  | ok fl =>
   cases fl with
   | next=>exact False.elim h
   | brk=>exact False.elim h
   | cont=>exact False.elim h
   | ret u =>
    obtain ⟨v,H',os,bare,un,hok',r',q⟩:=h
    have q':v = .bl true:=q
    subst q'
    obtain rfl:u=Value.bool true:=r'
    refine ⟨rfl,OldK.of_keep fun b o e=>?_,os,bare⟩
    cases q:H b with
    | none=>exact un.keep b o e q (by intro z; exact absurd (show b∈([]:List Addr) from z) (by simp)) (by simp)
    | some u =>
     rcases hO b with z | ⟨ob,xs,z⟩
     ·rw [q] at z; cases z
     ·have z2:=un.frzs b ob _ z
      obtain ⟨e1,_⟩:=hok b _ z
      obtain ⟨e2,_⟩:=hok' b _ z2
      rw [e] at e1; cases e1
      exact e2
 cases hk:K.lookup a with
 | some o =>
  have e:=KX a o hk
  rw [ha] at e
  cases e
  refine core (fun _=>none) (fun _=>.inl rfl) (.inr ⟨_,vs.toArray,_,hk,rfl,rfl,rfl,by rw [List.size_toArray,lenV]; exact hl,by simpa using rv⟩) (fun b u z=>by have z':(none:Option HO)=some u:=z; cases z') (fun b z=>absurd rfl z) fun z=>absurd rfl z
 | none =>
  refine core (fun b=>if b=a then some (.frz { cls:=.type "list",data:=.seq vs.toArray } (.lst (ns.map V.int))) else none) (fun b=>?_) (.inl (.inr ⟨{ cls:=.type "list",data:=.seq vs.toArray },if_pos rfl⟩)) (fun b u z=>?_) (fun b z=>?_) fun _=>hk
  ·by_cases hb:b=a
   ·exact .inr ⟨_,_,if_pos hb⟩
   ·exact .inl (if_neg hb)
  ·by_cases hb:b=a
   ·have z':=(if_pos hb).symm.trans z
    cases z'
    subst hb
    exact ⟨ha,by rw [List.length_map]; exact hl,vs,_,rv,ha⟩
   ·have z':=(if_neg hb).symm.trans z
    cases z'
  ·by_cases hb:b=a
   ·exact hb
   ·exact absurd (if_neg hb) z
end L2
namespace L2
open PySem PySem.Spec PyProof.Rows
noncomputable abbrev KOf {K:PySem.W.Frag} {h:Heap} (_:K.In h):PySem.W.Frag:=K
theorem walk_of {l:PySem.W.OpenLaw} {n k:Nat} {q:Program} {loose:List Str} {XP:(Str->Option Value)->Heap->Prop} {YP:World->Heap->Prop} {d:DefRec} {K:Params->PySem.W.Frag} {CX:World->CXT} {sp:World->Sp} {x:Str}
  (hI:importsNone q=true) (hn:l.most=some n) (hn2:n<=sizeLine) (hdf:d.params.defaults=[]) (hr:Room k callerA)
  (hY:∀ (w:World) (h:Heap),YP w h->(K w.params).In h)
  (F:∀ (w:World) (mg:Str->Option Value) (fa:Addr) (h:Heap),(K w.params).In h->h.Ns mainGlobals mg->mg d.name=some (.ref fa) ->
   ∃ fd:FuncData,(∀ (s:Shared) (u:Value),BindsTo s fd ⟨[u],[]⟩ [(x,u)]) /\
    ∀ base:Heap,(K w.params).In base->base.Ns mainGlobals mg->FnOk l.prog w (K w.params) mg base (CX w) k fa fd [x] (sp w))
  (hsp:∀ (w:World) (H:Hp) (a:Addr) (ns:List Int),ns.length<=n->Only H->SqL (K w.params) H a (ns.map V.int)->sp w [.ref a] H (fun v _=>v = .bl true) fun _ _ _=>False)
  (hCX:∀ (w:World) (H:Hp) (s:Shared) (e:Value) (s':Shared),CX w [] H s (fun _ _ _=>False) e s'->False) :
  PySem.W.WalkO q loose XP YP l.row.toRowW d [] (fun f vs=>PySem.call f vs):=by
 refine Att.attach_call hn hdf fun w s₀ s₁ mg mb fa o pm cd doc a vs ns G Y ho hd hcd hmg hobj hints hlen hg=>?_
 have KX:=hY w _ Y
 obtain ⟨fd,hb,hF⟩:=F w mg fa _ KX G.T.g hmg
 exact Ych KX G.T.g G.T.b G.T.builtins G.T.nolimit (let ⟨mm,z,_⟩:=(G.T.seer hI).mods; ⟨mm,z⟩) hg hobj hints (Nat.le_trans hlen hn2) hr hF hb (fun H hO hS=>hsp w H a ns hlen hO hS) fun H e s'=>hCX w H s₁ e s'
end L2
/- THE LAST THEOREM (shape; LID, My.* are yours):
   My.Adr: a structure of the addresses that your layer names (classes, functions); My.Txt K t: a structure (Prop) of the equations over K;
   My.txt_mk : {K} {implicit addresses ..} (e1 : nsIn K mainGlobals "law" = some (some (.ref f))) (e2 : K.lookup f = some ⟨oc, od, .func (fnOf "law" "law" params body scope dV kV doc pm an cdv ct), sl⟩) (e3 : codeIn K cdv "law" = true) .. : ∃ t, My.Txt K t
set_option maxRecDepth 100000 in
set_option maxHeartbeats 0 in
theorem PySem.Challenge.cw_LID_holds : PySem.Challenge.rw_LID.Holds := by
 w_on; o_law; k_head; (case hw=>w_witness2)
 k_fill
 refine L2.walk_of (l:=PySem.Challenge.rw_LID) (n:=63) (k:=40) (x:="script") (CX:=fun w=>..) (sp:=fun _=>My.sp_law) rfl (by decide) rfl ⟨rfl,by decide,by decide⟩ (fun w h Y=>PySem.W.kIn_of Y) ?F ?S ?C
 case F =>
  intro w mg fa h KX G hmg
  have T:∃ t,My.Txt (L2.KOf KX) t:=by
   dsimp only [L2.KOf] -- K must stand as «<heap const> w.params» for k_is
   refine' My.txt_mk ?e1 ?e2 ?e3 ..
   (case e1=>PySem.W.k_is) -- in the order: a name -> its address -> its object -> its parts
   (case e2=>PySem.W.k_is)
   ..
  obtain ⟨t,T⟩:=T
  have e0:=hmg.symm.trans (PySem.W.mg_of KX G T.law)
  cases e0 -- fa is the law's own address
  exact ⟨_,fun s u=>.of_eq rfl,fun base kb nb=>My.law_fn T kb nb⟩ -- if «.of_eq rfl» comes too early: refine' ⟨_,?b,fun base kb nb=>My.law_fn T kb nb⟩; exact fun s u=>.of_eq rfl
 case S=>exact fun w H a ns hl hO hS=>..
 case C=>exact ..
(the tactic k_is has no namespace: write k_is) -/
namespace L2
open PySem PySem.Spec PyProof.Rows
noncomputable def Vp (s:Stmt):Arguments:=match s with
 | .FunctionDef _ a _ _ _ _ _ _ _ _=>a
 | _=>{ posonlyargs:=[],args:=[],vararg:=none,kwonlyargs:=[],kw_defaults:=[],kwarg:=none,defaults:=[] }
noncomputable def Vb (s:Stmt):List Stmt:=match s with
 | .FunctionDef _ _ b _ _ _ _ _ _ _=>b
 | _=>[]
noncomputable def Xa (s:Stmt):Scope:=match s with
 | .FunctionDef _ _ _ _ _ _ sc _ _ _=>sc
 | _=>{ kind:=.function,names:=[],isGenerator:=false,isCoroutine:=false }
noncomputable abbrev CX0:CXT:=fun _ _ _ _ _ _=>False
noncomputable abbrev E0:XK:=fun _ _ _=>False
structure Fun (K:PySem.W.Frag) (x qual:Str) (st:Stmt) (f:Addr) (fd:FuncData):Prop where
 ex:∃ (oc:Value) (od:Option Addr) (kV doc pm:Value) (an:Option Addr) (cdv ct:Value) (osl:Array (Option Value)),
  fd=PySem.W.fnOf x qual (Vp st) (Vb st) (Xa st) .none kV doc pm an cdv ct/\K.lookup f=some ⟨oc,od,.func fd,osl⟩/\PySem.W.codeIn K cdv qual=true
 kp:PySem.W.keepIn K (.ref f)=true
section
variable {P:Program} {w:World} {K:PySem.W.Frag} {mg:Str->Option Value} {base:Heap}
theorem Fun.ok {x qual:Str} {st:Stmt} {f:Addr} {fd:FuncData} {N ps:List Str} {k:Nat} {sp:Sp} (F:Fun K x qual st f fd) (S:FnScope N ps (Xa st)) (len:∀ vs H Q E,sp vs H Q E->vs.length=ps.length)
  (hbody:∀ (cdv:Value) (A:Around) (outer:List Env) (s:Shared) (H:Hp) (vs:List V) (Q:VK) (E:XK),Room k (A.deeper (envOfC qual (Xa st) s.heap.objs.size f cdv))->sp vs H Q E ->
   ∃ t,PSs (cxOf CX0 P w K mg base N qual (Xa st) f cdv A outer s H E).nox (Vb st) t/\t { nx:=fun _ H'=>Q .non H',rt:=Q } (start N vs) H):FnOk P w K mg base CX0 (k + 1) f fd ps sp:=by
 obtain ⟨oc,od,kV,doc,pm,an,cdv,ct,osl,rfl,lk,hcd⟩:=F.ex
 refine fn_of lk hcd S len fun A outer s H vs Q E hr hsp=>?_
 obtain ⟨t,h,q⟩:=hbody cdv A outer s H vs Q E hr hsp
 exact ⟨t,h.nox,q⟩
theorem Fun.binds {x qual:Str} {st:Stmt} {f:Addr} {fd:FuncData} {ps:List Str} (F:Fun K x qual st f fd)
  (h:∀ (kV doc pm:Value) (an:Option Addr) (cdv ct:Value) (us:List Value),us.length=ps.length->bindArgs (PySem.W.fnOf x qual (Vp st) (Vb st) (Xa st) .none kV doc pm an cdv ct) ⟨us,[]⟩=pure (ps.zip us)):Binds K fd ps []:=by
 obtain ⟨oc,od,kV,doc,pm,an,cdv,ct,osl,rfl,lk,hcd⟩:=F.ex
 exact .all (h kV doc pm an cdv ct)
theorem fun_mk {x qual:Str} {st:Stmt} {f:Addr} {oc:Value} {od an:Option Addr} {osl:Array (Option Value)} {kV doc pm cdv ct:Value} (l:K.lookup f=some ⟨oc,od,.func (PySem.W.fnOf x qual (Vp st) (Vb st) (Xa st) .none kV doc pm an cdv ct),osl⟩)
  (c:PySem.W.codeIn K cdv qual=true) (k:PySem.W.keepIn K (.ref f)=true):Fun K x qual st f (PySem.W.fnOf x qual (Vp st) (Vb st) (Xa st) .none kV doc pm an cdv ct):=⟨⟨oc,od,kV,doc,pm,an,cdv,ct,osl,rfl,l,c⟩,k⟩
end
section
variable {X:Cx}
end
noncomputable def Same (H H':Hp):Prop:=∀ b o,H b=some o->H' b=some o
theorem Same.refl (H:Hp):Same H H:=fun _ _ h=>h
theorem Same.trans {H H1 H2:Hp} (a:Same H H1) (b:Same H1 H2):Same H H2:=fun c o h=>b c o (a c o h)
theorem Same.free {H H':Hp} (e:Same H H') {l:Addr} (h:H' l=Option.none):H l=Option.none:=by
 cases q:H l with
 | none=>rfl
 | some o =>
  rw [e l o q] at h
  cases h
theorem Same.seq {K:PySem.W.Frag} {H H':Hp} {a:Addr} {xs:List V} (e:Same H H') (h:SqL K H a xs):SqL K H' a xs:=by
 rcases h with (h | ⟨o,h⟩) | h
 ·exact .inl (.inl (e _ _ h))
 ·exact .inl (.inr ⟨o,e _ _ h⟩)
 ·exact .inr h
end L2
end
section
namespace L2
open PySem PySem.Spec PyProof.Rows
section
variable {κ:Type} [DecidableEq κ]
noncomputable def valV (kvs:List (κ×V)) (k:κ):Option V:=(kvs.find? fun kv=>decide (kv.1=k)).map (·.2)
noncomputable def putK (kvs:List (κ×V)) (k:κ) (v:V):List (κ×V) :=
 if (kvs.any fun kv=>decide (kv.1=k))=true then kvs.map (fun kv=>if kv.1=k then (kv.1,v) else kv) else kvs ++ [(k,v)]
noncomputable def Xz (kvs:List (κ×V)) (k:κ):List (κ×V):=kvs.filter fun kv=>decide (kv.1≠k)
theorem Z2 {p:κ×V} {r:List (κ×V)} {k:κ} (e:p.1=k):valV (p :: r) k=some p.2:=by simp [valV,List.find?_cons,e]
theorem W2 {p:κ×V} {r:List (κ×V)} {k:κ} (e:¬ p.1=k):valV (p :: r) k=valV r k:=by simp [valV,List.find?_cons,e]
theorem Yaf (k:κ):∀ kvs:List (κ×V),(kvs.any fun kv=>decide (kv.1=k))=(valV kvs k).isSome
 | []=>rfl
 | p :: r=>by
  rw [List.any_cons]
  by_cases e:p.1=k
  ·simp only [Z2 e,decide_eq_true e,Bool.true_or,Option.isSome_some]
  ·rw [W2 e,decide_eq_false e,Bool.false_or]; exact Yaf k r
theorem Zaw (kvs:List (κ×V)) (k:κ) (v:V):(putK kvs k v).length<=kvs.length + 1:=by
 unfold putK
 split
 ·rw [List.length_map]; omega
 ·rw [List.length_append,List.length_cons,List.length_nil]; omega
theorem RelO.isSome_eq {o:Option V} {u:Option Value} (r:RelO o u):o.isSome=u.isSome:=by
 cases o with
 | none=>cases u with
  | none=>rfl
  | some _=>exact (show False from r).elim
 | some _=>cases u with
  | none=>exact (show False from r).elim
  | some _=>rfl
theorem RelO.getD {o:Option V} {u:Option Value} {d:V} {d':Value} (r:RelO o u) (rd:RelV d d'):RelV (o.getD d) (u.getD d'):=by
 cases o with
 | none=>cases u with
  | none=>exact rd
  | some _=>exact (show False from r).elim
 | some _=>cases u with
  | none=>exact (show False from r).elim
  | some _=>exact r
theorem KV.val {kvs:List (κ×V)} {vs:List (κ×Value)} (r:KV kvs vs) (k:κ):RelO (valV kvs k) (valueAt vs k):=by
 unfold KV at r
 induction r with
 | nil=>exact True.intro
 | @cons p q ps qs h t ih =>
  obtain ⟨h1,h2⟩:=h
  by_cases e:p.1=k
  ·have e':q.1=k:=h1.symm.trans e
   have b:valueAt (q :: qs) k=some q.2:=by simp [valueAt,List.find?_cons,e']
   rw [Z2 e,b]; exact h2
  ·have e':¬ q.1=k:=fun z=>e (h1.trans z)
   have b:valueAt (q :: qs) k=valueAt qs k:=by simp [valueAt,List.find?_cons,e']
   rw [W2 e,b]; exact ih
theorem KV.any {kvs:List (κ×V)} {vs:List (κ×Value)} (r:KV kvs vs) (k:κ):(kvs.any fun kv=>decide (kv.1=k))=vs.any fun kv=>decide (kv.1=k):=by
 unfold KV at r
 induction r with
 | nil=>rfl
 | cons h t ih=>rw [List.any_cons,List.any_cons,ih,h.1]
theorem KV.repl {kvs:List (κ×V)} {vs:List (κ×Value)} (r:KV kvs vs) (k:κ) {y:V} {u:Value} (ry:RelV y u) :
  KV (kvs.map fun kv=>if kv.1=k then (kv.1,y) else kv) (vs.map fun kv=>if kv.1=k then (kv.1,u) else kv):=by
 unfold KV at r ⊢
 induction r with
 | nil=>exact .nil
 | @cons p q ps qs h t ih =>
  rw [List.map_cons,List.map_cons]
  refine .cons ?_ ih
  obtain ⟨h1,h2⟩:=h
  by_cases e:p.1=k
  ·rw [if_pos e,if_pos (h1.symm.trans e)]; exact ⟨h1,ry⟩
  ·rw [if_neg e,if_neg (fun z=>e (h1.trans z))]; exact ⟨h1,h2⟩
theorem KV.put {kvs:List (κ×V)} {vs:List (κ×Value)} (r:KV kvs vs) (k:κ) {y:V} {u:Value} (ry:RelV y u):KV (putK kvs k y) (stored vs k u):=by
 unfold putK stored
 rw [r.any k]
 by_cases e:(vs.any fun kv=>decide (kv.1=k))=true
 ·rw [if_pos e,if_pos e]; exact r.repl k ry
 ·rw [if_neg e,if_neg e]; exact Paired.snoc r ⟨rfl,ry⟩
theorem KV.drop {kvs:List (κ×V)} {vs:List (κ×Value)} (r:KV kvs vs) (k:κ):KV (Xz kvs k) (without vs k):=by
 unfold KV at r ⊢
 unfold Xz without
 induction r with
 | nil=>exact .nil
 | @cons p q ps qs h t ih =>
  obtain ⟨h1,h2⟩:=h
  rw [List.filter_cons,List.filter_cons]
  by_cases e:p.1=k
  ·have a:¬ decide (p.1≠k)=true:=by simp [e]
   have b:¬ decide (q.1≠k)=true:=by simp [h1.symm.trans e]
   rw [if_neg a,if_neg b]; exact ih
  ·have e':¬ q.1=k:=fun z=>e (h1.trans z)
   have a:decide (p.1≠k)=true:=by simp [e]
   have b:decide (q.1≠k)=true:=by simp [e']
   rw [if_pos a,if_pos b]; exact .cons ⟨h1,h2⟩ ih
theorem KV.length {kvs:List (κ×V)} {vs:List (κ×Value)} (r:KV kvs vs):kvs.length=vs.length:=Paired.length r
theorem Zcj (kvs:List (κ×V)) (k:κ):(Xz kvs k).length<=kvs.length:=List.length_filter_le _ _
end
theorem Xbs {P:Program} {w:World} {k:Key} {u:Value} (r:RelV (kV k) u):(Xe P w).is k u=true:=by
 cases k with
 | inl i=>obtain ⟨t,e⟩:=(show ∃ t,u=Value.int i t from r); subst e; exact Yav P w i t
 | inr x=>obtain ⟨t,e⟩:=(show ∃ t,u=Value.str x t from r); subst e; exact Zav P w x t
noncomputable abbrev KT (H:Hp):List (List Key×V)->List (List Key×Addr×Value)->Prop:=Paired fun p q=>p.1=q.1/\H q.2.1=some (.tup (p.1.map kV))/\RelV p.2 q.2.2
theorem KT.val {H:Hp} {kvs:List (List Key×V)} {xs:List (List Key×Addr×Value)} (r:KT H kvs xs) (k:List Key):RelO (valV kvs k) ((atKey xs k).map (·.2)):=by
 induction r with
 | nil=>exact True.intro
 | @cons p q ps qs h t ih =>
  obtain ⟨h1,_,h2⟩:=h
  by_cases e:p.1=k
  ·have e':q.1=k:=h1.symm.trans e
   have b:atKey (q :: qs) k=some q.2:=by simp [atKey,List.find?_cons,e']
   rw [Z2 e,b]; exact h2
  ·have e':¬ q.1=k:=fun z=>e (h1.trans z)
   have b:atKey (q :: qs) k=atKey qs k:=by simp [atKey,List.find?_cons,e']
   rw [W2 e,b]; exact ih
theorem KT.repl {H:Hp} {kvs:List (List Key×V)} {xs:List (List Key×Addr×Value)} (r:KT H kvs xs) (k:List Key) {y:V} {u:Value} (ry:RelV y u) :
  KT H (kvs.map fun kv=>if kv.1=k then (kv.1,y) else kv) (xs.map (putAt k u)):=by
 induction r with
 | nil=>exact .nil
 | @cons p q ps qs h t ih =>
  rw [List.map_cons,List.map_cons]
  refine .cons ?_ ih
  obtain ⟨h1,h2,h3⟩:=h
  unfold putAt
  by_cases e:p.1=k
  ·rw [if_pos e,if_pos (h1.symm.trans e)]; exact ⟨h1,h2,ry⟩
  ·rw [if_neg e,if_neg (fun z=>e (h1.trans z))]; exact ⟨h1,h2,h3⟩
theorem KT.put {H:Hp} {kvs:List (List Key×V)} {xs:List (List Key×Addr×Value)} (r:KT H kvs xs) (k:List Key) {b:Addr} {y:V} {u:Value} (hb:H b=some (.tup (k.map kV))) (ry:RelV y u) :
  KT H (putK kvs k y) (storedH xs k b u):=by
 have e:(kvs.any fun kv=>decide (kv.1=k))=(atKey xs k).isSome:=by
  rw [Yaf,(r.val k).isSome_eq,Option.isSome_map]
 unfold putK storedH
 rw [e]
 by_cases q:(atKey xs k).isSome=true
 ·rw [if_pos q,if_pos q]; exact r.repl k ry
 ·rw [if_neg q,if_neg q]; exact Paired.snoc r ⟨rfl,hb,ry⟩
theorem KT.keeps {H H':Hp} {kvs:List (List Key×V)} {xs:List (List Key×Addr×Value)} (r:KT H kvs xs) (ht:∀ b ys,H b=some (.tup ys)->H' b=some (.tup ys)):KT H' kvs xs :=
 Paired.mapP r fun _ _ z=>⟨z.1,ht _ _ z.2.1,z.2.2⟩
section
variable {P:Program} {w:World} {H:Hp} {h:Heap} {a:Addr}
theorem rd_of {u:HO} (ok:HOk P w H h) (e:Rd H a u):ObjOk P w H h a u:=e.ok ok
theorem Wbe {kvs:List (Key×V)} (ok:HOk P w H h) (e:Rd H a (.dK kvs)):kvs.length<=sizeLine/\(a == sysModules)=false/\∃ vs,KV kvs vs/\h.DictOf (Xe P w) a vs :=
 show ObjOk P w H h a (.dK kvs) from rd_of ok e
theorem dk_of {kvs:List (Key×V)} (ok:HOk P w H h) (e:H a=some (.dK kvs)):kvs.length<=sizeLine/\(a == sysModules)=false/\∃ vs,KV kvs vs/\h.DictOf (Xe P w) a vs:=Wbe ok (.inl e)
end
noncomputable def DGet (H:Hp) (a:Addr) (y:V) (r:Option V):Prop :=
 ∃ kvs k,Rd H a (.dK kvs)/\y=kV k/\r=valV kvs k
noncomputable def DPut (H:Hp) (a:Addr) (y v:V) (H':Hp):Prop :=
 ∃ kvs k,H a=some (.dK kvs)/\y=kV k/\kvs.length < sizeLine/\H'=upd H a (.dK (putK kvs k v))
theorem DGet.k {H:Hp} {a:Addr} {kvs:List (Key×V)} {k:Key} (e:H a=some (.dK kvs)):DGet H a (kV k) (valV kvs k):=⟨kvs,k,.inl e,rfl,rfl⟩
theorem DPut.k {H:Hp} {a:Addr} {kvs:List (Key×V)} {k:Key} {v:V} (e:H a=some (.dK kvs)) (hl:kvs.length < sizeLine):DPut H a (kV k) v (upd H a (.dK (putK kvs k v))):=⟨kvs,k,e,rfl,hl,rfl⟩
section
variable {X:Cx} {pins:List (Addr×Obj)} {σ:St} {H:Hp} {s:Shared} {a:Addr} {y v:V} {u r:Value} {o:Option V} {A:Around} {E:Value->Shared->Prop}
theorem Inv.big (I:Inv X pins σ H s):sysModules < s.heap.objs.size:=by
 have h:mainGlobals < s.heap.objs.size:=(I.mod.glob.keeps I.bk).lt
 exact Nat.lt_trans (by decide) h
theorem Ybz {Q:Value->Shared->Prop} (hu:A.units + 1 < cLine) (I:Inv X pins σ H s) (g:DGet H a y (some v)) (ry:RelV y u) (h:∀ w' s',Inv X pins σ H s'->RelV v w'->Q w' s') :
  wpAny (model X.prog X.w) A (getItem (.ref a) u) Q E s:=by
 obtain ⟨kvs,k,e,ey,l⟩:=g
 ·subst ey
  obtain ⟨z,hd,vs,rel,dd⟩:=Wbe I.hok e
  obtain ⟨w',hw,rw'⟩:=RelO.some_of (v:=v) (o:=valueAt vs k) (by rw [l]; exact rel.val k)
  exact wpAny_getItem_of (Xbs ry) dd.mapOf hw (h w' _ (I.tok _) rw')
theorem d_in {Q:Value->Shared->Prop} (hu:A.units + 1 < cLine) (I:Inv X pins σ H s) (g:DGet H a y o) (ry:RelV y u) (h:∀ s',Inv X pins σ H s'->Q (.bool o.isSome) s') :
  wpAny (model X.prog X.w) A (compareOp .In u (.ref a)) Q E s:=by
 obtain ⟨kvs,k,e,ey,l⟩:=g
 ·subst ey
  obtain ⟨z,hd,vs,rel,dd⟩:=Wbe I.hok e
  refine wpAny_in_of (Xbs ry) hd dd.mapOf ?_
  rw [<- (rel.val k).isSome_eq,<- l]
  exact h _ (I.tok _)
theorem d_notIn {Q:Value->Shared->Prop} (hu:A.units + 1 < cLine) (I:Inv X pins σ H s) (g:DGet H a y o) (ry:RelV y u) (h:∀ s',Inv X pins σ H s'->Q (.bool (!o.isSome)) s') :
  wpAny (model X.prog X.w) A (compareOp .NotIn u (.ref a)) Q E s:=by
 obtain ⟨kvs,k,e,ey,l⟩:=g
 ·subst ey
  obtain ⟨z,hd,vs,rel,dd⟩:=Wbe I.hok e
  refine wpAny_notIn_of (Xbs ry) hd dd.mapOf ?_
  rw [<- (rel.val k).isSome_eq,<- l]
  exact h _ (I.tok _)
theorem Vby {h':Heap} {t':Nat} {ob:HO} (I:Inv X pins σ H s) (mu:Mut (H a)) (hs:Heap.SameBut a s.heap h') (he:∃ q,h'.get? a=some q) (new:ObjOk X.prog X.w (upd H a ob) h' a ob) :
  Inv X pins σ (upd H a ob) { s with heap:=h',toks:=t' } :=
 I.write (x:=a) (e:=a) mu (.inl rfl) (fun b q hb z=>(hs.2 b hb).trans z) he new
theorem Wbx {P:Program} {w:World} {H':Hp} {h':Heap} {kvs:List (Key×V)} {vs:List (Key×Value)} (z:kvs.length<=sizeLine) (hd:(a == sysModules)=false) (rel:KV kvs vs) (dd:h'.DictOf (Xe P w) a vs) :
  ObjOk P w H' h' a (.dK kvs):=⟨z,hd,vs,rel,dd⟩
theorem Zbz {H':Hp} {Q:Unit->Shared->Prop} (hu:A.units + 1 < cLine) (I:Inv X pins σ H s) (g:DPut H a y v H') (ry:RelV y u) (rv:RelV v r) (h:∀ s',Inv X pins σ H' s'->Q () s') :
  wpAny (model X.prog X.w) A (setItem (.ref a) u r) Q E s:=by
 obtain ⟨kvs,k,e,ey,l,eH⟩:=g
 ·subst ey eH
  obtain ⟨z,hd,vs,rel,dd⟩:=dk_of I.hok e
  have hz:vs.length<=sizeLine:=by rw [<- rel.length]; exact z
  have hl:(putK kvs k v).length<=sizeLine:=by have:=Zaw kvs k v; omega
  refine wpAny_setItem_pairs (hsz:=hz) (Xbs ry) dd fun h' dd' hs=>h _ ?_
  have he:∃ q,h'.get? a=some q:=let ⟨q,_,_,hq,_⟩:=dd'; ⟨q,hq⟩
  exact Vby I (by rw [e]; exact True.intro) hs he (Wbx hl hd (rel.put k rv) dd')
end
section
variable {X:Cx} {pins:List (Addr×Obj)} {σ:St} {H:Hp} {s:Shared} {a:Addr} {kvs:List (Key×V)} {k:Key} {u:Value} {A:Around} {E:Value->Shared->Prop}
theorem d_pop {v:V} {more:List Value} {Q:Value->Shared->Prop} (I:Inv X pins σ H s) (e:H a=some (.dK kvs)) (ry:RelV (kV k) u) (l:valV kvs k=some v) (hm:more=[]∨∃ x,more=[x])
  (h:∀ w' s',Inv X pins σ (upd H a (.dK (Xz kvs k))) s'->RelV v w'->Q w' s'):wpAny (model X.prog X.w) A (call (.builtin "dict.pop") (.ref a :: u :: more)) Q E s:=by
 obtain ⟨z,hd,vs,rel,dd⟩:=dk_of I.hok e
 obtain ⟨w',hw,rw'⟩:=RelO.some_of (v:=v) (o:=valueAt vs k) (by rw [<- l]; exact rel.val k)
 have hp:(keyPart u).isSome=true:=by
  cases k with
  | inl i=>obtain ⟨t,q⟩:=(show ∃ t,u=Value.int i t from ry); subst q; rfl
  | inr x=>obtain ⟨t,q⟩:=(show ∃ t,u=Value.str x t from ry); subst q; rfl
 have ha:argsOk "dict.pop" ⟨.ref a :: u :: more,[]⟩:=by
  rcases hm with q | ⟨x,q⟩
  ·subst q; exact PySem.F.args_dict_pop_2 _ _
  ·subst q; exact PySem.F.args_dict_pop_3 _ _ _
 refine call_meetsIn PySem.F.slot_dict_pop dd.typeIs PySem.F.entry_dict_pop ha (meets_dict_pop_there (Xe X.prog X.w) a (Xbs ry) more hm hp)
  ⟨vs,w',dd,by rw [<- rel.length]; exact z,hw,fun h' dd' hs=>h w' _ ?_ rw'⟩
 have he:∃ q,h'.get? a=some q:=let ⟨q,_,_,hq,_⟩:=dd'; ⟨q,hq⟩
 exact Vby I (by rw [e]; exact True.intro) hs he (Wbx (Nat.le_trans (Zcj kvs k) z) hd (rel.drop k) dd')
theorem d_len {Q:Value->Shared->Prop} (I:Inv X pins σ H s) (e:Rd H a (.dK kvs)) (h:∀ t s',Inv X pins σ H s'->Q (.int kvs.length t) s'):wpAny (model X.prog X.w) A (call (.builtin "len") [.ref a]) Q E s:=by
 obtain ⟨z,hd,vs,rel,dd⟩:=Wbe I.hok e
 refine call_len_dict hd dd (by rw [<- rel.length]; rw [sizeLine_eq] at z; omega) ?_
 rw [<- rel.length]
 exact h _ _ (I.tok _)
end
noncomputable def NoSl (i:Expr):Prop:=∀ ov iv,subscripted i false ov iv=operate [ov,iv] (getItem ov iv)
theorem subD_of {prog:Program} {w:World} {A:Around} {E:Value->Shared->Prop} {s:Shared} {env:Env} {value slice:Expr} {pos:Pos} {T id:String} {Q:Value->Shared->Prop}
  (hl:typeLookup (.type T) "__getitem__" = pure (some (.builtin id))) (hs:NoSl slice)
  (h:wpAny (model prog w) A (eval value env) (fun o s₁=>wpAny (model prog w) A (eval slice env) (fun i s₂=>s₂.TypeIs o T/\wpAny (model prog w) A (getItem o i) Q E s₂) E s₁) E s) :
  wpAny (model prog w) A (eval (.Subscript value slice pos) env) Q E s:=by
 refine Subscript_ (wpAny_mono h (fun o s₁ h₁=>wpAny_mono h₁ (fun i s₂ h₂=>?_) fun _ _ x=>x) fun _ _ x=>x)
 obtain ⟨hT,h₂⟩:=h₂
 unfold subscriptTail
 refine wpAny_bind ?_
 rw [getitemInPython_of_ne hT.not_modules]
 refine wpAny_bind (wpAny_specialOf hT hl ?_)
 have fin:wpAny (model prog w) A (subscripted slice false o i) (fun r s₃=>wpAny (model prog w) A (letTemporaryGo value o r >>= fun _=>pure r) Q E s₃) E s₂:=by
  rw [hs o i]
  exact wpAny_operating (wpAny_mono h₂ (fun r s₃ h₃=>wpAny_bind (wpAny_letTemporaryGo (wpAny_pure h₃))) fun _ _ x=>x)
 first
  | exact wpAny_pure (wpAny_bind fin)
  | exact wpAny_bind (wpAny_pure (wpAny_bind fin))
  | exact wpAny_bind fin
theorem Vay {X:Cx} {pins:List (Addr×Obj)} {σ:St} {H:Hp} {s:Shared} {a:Addr} {y:V} {o:Option V} (I:Inv X pins σ H s) (g:DGet H a y o):s.TypeIs (.ref a) "dict":=by
 obtain ⟨kvs,k,e,_,_⟩:=g
 ·obtain ⟨_,_,vs,_,dd⟩:=Wbe I.hok e
  exact dd.typeIs
noncomputable def tDGet (td ty:TE):TE:=fun σ H Q=>td σ H fun x H1=>ty σ H1 fun y H2=>∃ a v,x = .ref a/\DGet H2 a y (some v)/\Q v H2
noncomputable def sDPut (td ty tv:TE):TS:=fun D σ H=>tv σ H fun v H1=>td σ H1 fun x H2=>ty σ H2 fun y H3=>∃ a H4,x = .ref a/\DPut H3 a y v H4/\D.nx σ H4
section
variable {X:Cx} {o i e value:Expr} {pos pos' tpos:Pos} {td ty tv:TE}
theorem pe_dget (hu:X.A.units + 1 < cLine) (ho:PE X o td) (hi:PE X i ty) (hs:NoSl i):PE X (.Subscript o i pos) (tDGet td ty):=by
 intro pins s σ H Q I h
 refine subD_of PySem.F.slot_dict_getitem.lookup hs (thn (ho pins s σ H _ I h) fun u s1 ⟨x,H1,I1,rx,q1⟩=>thn (hi pins s1 σ H1 _ I1 q1) fun iv s2 ⟨y,H2,I2,ry,a,v,ex,g,q2⟩=>?_)
 subst ex
 obtain rfl:u=Value.ref a:=rx
 exact ⟨Vay I2 g,Ybz hu I2 g ry fun w' s3 I3 rw'=>⟨v,H2,I3,rw',q2⟩⟩
theorem ps_dput (hu:X.A.units + 1 < cLine) (ho:PE X o td) (hi:PE X i ty) (hv:PE X value tv) (hs:swapsWith value (some (.Subscript o i pos')) pos.line X.env=pure false) :
  PS X (.Assign [.Subscript o i pos'] value pos) (sDPut td ty tv):=by
 intro pins s σ H D I h
 refine wpAny_Assign_Subscript (thn (hv pins s σ H _ I h) fun r s1 ⟨v,H1,I1,rv,q1⟩=>thn (ho pins s1 σ H1 _ I1 q1) fun u s2 ⟨x,H2,I2,rx,q2⟩=>thn (hi pins s2 σ H2 _ I2 q2) fun iv s3 ⟨y,H3,I3,ry,a,H4,ex,g,q3⟩=>?_) hs
 subst ex
 obtain rfl:u=Value.ref a:=rx
 exact Zbz hu I3 g ry rv fun s4 I4=>⟨σ,H4,I4,q3⟩
end
section
variable {X:Cx} {pos:Pos}
end
section
variable {X:Cx} {pins:List (Addr×Obj)} {σ:St} {H:Hp} {s:Shared} {a:Addr} {y d:V} {u r:Value} {o:Option V} {A:Around} {E:Value->Shared->Prop}
end
section
variable {X:Cx} {o e f:Expr} {apos cpos:Pos} {td ty tx:TE}
end
section
variable {X:Cx} {pins:List (Addr×Obj)} {σ:St} {H:Hp} {s:Shared} {a:Addr} {kvs:List (Key×V)} {A:Around} {E:Value->Shared->Prop}
end
section
variable {X:Cx} {pins:List (Addr×Obj)} {σ:St} {H:Hp} {s:Shared} {a:Addr} {y:V} {u:Value} {A:Around} {E:Value->Shared->Prop}
end
end L2
end
section
namespace DW
open PySem PySem.Spec PyProof.Rows PyProof.Rows.KTD L2
noncomputable def Zby (K:PySem.W.Frag) (a:Addr):List (Str×Addr):=match K.lookup a with
 | some o=>(match o.data with
  | .dict es _=>es.toList.filterMap fun e=>(match e.key with | .str x _=>(match e.val with | .ref f=>some (x,f) | _=>none) | _=>none)
  | _=>[])
 | none=>[]
noncomputable def refB (f:Addr) (v:Value):Bool:=v == .ref f
noncomputable def dicOk (K:PySem.W.Frag) (a:Addr):Bool:=tabLook refB (fun b=>K.lookup b) a (Zby K a) && (Zby K a).all fun p=>PySem.W.keepIn K (.ref p.2)
section
variable {prog:Program} {w:World} {A:Around} {E:Value->Shared->Prop} {s:Shared} {K:PySem.W.Frag} {a:Addr} {k:Str} {tk:Tok}
end
section
variable {X:Cx} {x:Str} {a:Addr} {i:Expr} {p pos:Pos} {ti:TE}
end
end DW
end
section
set_option maxHeartbeats 2000000
namespace DW
open PySem PySem.Spec PyProof.Rows L2
noncomputable def TrX (B:Heap) (e:Addr) (ob:Obj) (vs:Array Value) (fl:Value) (h:Heap):Prop :=
 ∃ T oT ts,h.get? e=some { ob with data:=.fields (vs.setIfInBounds 1 (.ref T)) }/\B.get? T=none/\T≠e/\h.get? T=some oT/\oT.data = .fields ts/\ts[3]? = some fl
structure FlyX (B:Heap) (l:List Env) (e:Addr) (ob:Obj) (vs:Array Value) (fl:Value) (h:Heap):Prop where
 stay:B.StaysIn h
 new:B.get? e=none
 fun_:h.FunFrames B l
 tr:TrX B e ob vs fl h
 two:2 < vs.size
theorem TrX.there {B h:Heap} {e:Addr} {ob:Obj} {vs:Array Value} {fl:Value} (x:TrX B e ob vs fl h):∃ T,h.get? e=some { ob with data:=.fields (vs.setIfInBounds 1 (.ref T)) }:=let ⟨T,_,_,q,_⟩:=x; ⟨T,q⟩
theorem Wac {h:Heap} {b e:Addr} {o oe:Obj} {vs:Array Value} (hb:h.get? b=some o) (hn:∀ vs,o.data≠.fields vs) (he:h.get? e=some oe) (hd:oe.data = .fields vs):b≠e:=fun z=>by
 subst z; rw [hb] at he; cases he; exact hn vs hd
theorem Zbp {B:Heap} {b e:Addr} {o:Obj} (hb:B.get? b=some o) (he:B.get? e=none):b≠e:=fun z=>by subst z; rw [hb] at he; cases he
section
variable {M:Model} {A:Around} {E:Value->Shared->Prop} {s:Shared} {B:Heap} {env:Env} {outer:List Env} {L e:Addr} {ob:Obj} {ws vs:Array Value} {Q:Unit->Shared->Prop}
theorem Yj {h:Heap} {a:Addr} {f:Obj->Obj}:∀ b,b≠a->(h.update a f).get? b=h.get? b:=fun b hb=>Heap.get?_update_other _ _ (Ne.symm hb)
theorem Vbv {hd:Value} {hn:Bool} (fr:A.frames=some (env :: outer)) (F:s.heap.FunFrames B (env :: outer)) (hf:env.frame=some L) (he:s.heap.get? e=some { ob with data:=.fields ws }) (st:B.StaysIn s.heap) (new:B.get? e=none)
  (z:2 < ws.size) (k:∀ h',FlyX B (env :: outer) e ob ws (rawInt L) h'->s.heap.UpToSlots h'->Q () { s with heap:=h' }) :
  wpAny M A (do let a <- frameOf env; let pl <- entryPlaceOf L hn; let b <- EntryCells.newEntry hd a .none (rawInt L) .none pl; setField (.ref e) 1 b) Q E s:=by
 have eo:e ∉ (env :: outer).filterMap (·.frame):=fun m=>let ⟨_,o,ho,nf⟩:=F.mem m; by rw [he] at ho; cases ho; exact nf ws rfl
 refine wpAny_bind (wpAny_frameOf_fun fr F hf fun g1 sl1=>wpAny_bind (wpAny_entryPlaceOf fun pl ip=>?_))
 unfold EntryCells.newEntry newFields
 refine wpAny_bind (wpAny_newObj_type ?_ (ip.sizeOk5 _ _ _ _ _))
 have e1:g1.get? e=some { ob with data:=.fields ws }:=by rw [sl1.2.1 e eo]; exact he
 have st1:B.StaysIn g1:=fun b o q=>by
  rw [sl1.2.1 b fun m=>(by rw [(F.mem m).1] at q; cases q)]; exact st b o q
 generalize hN:({ cls:=.type "traceback",dict:=none,data:=.fields ([hd,.ref L,.none,rawInt L,.none] ++ (if pl.isEmpty then List.replicate 6 Value.none else pl)).toArray }:Obj)=N
 have dN:N.data = .fields ([hd,.ref L,.none,rawInt L,.none] ++ (if pl.isEmpty then List.replicate 6 Value.none else pl)).toArray:=by rw [<- hN]
 have nN:N.isFreed=false:=by rw [<- hN]; rfl
 have lt:=Heap.lt_size e1
 have Te:g1.objs.size≠e:=Nat.ne_of_gt lt
 refine wpAny_setField (Heap.get?_push_of_some (h:=g1) N e1) rfl (by omega) (k _ ⟨?_,new,?_,?_,z⟩ ?_)
 ·intro b o q
  rw [Yj b (Zbp q new)]
  exact Heap.get?_push_of_some _ (st1 b o q)
 ·refine F.of_keeps fun b o hb nf=>?_
  obtain ⟨sl,q⟩:=sl1.2.2 b o hb
  exact ⟨{ o with slots:=sl },by rw [Yj b (Wac hb nf he rfl)]; exact Heap.get?_push_of_some _ q,rfl⟩
 ·refine ⟨g1.objs.size,N,_,Heap.get?_update_self _ (Heap.get?_push_of_some (h:=g1) N e1) rfl,st1.fresh,Te,?_,dN,?_⟩
  ·rw [Yj _ Te]; exact Heap.get?_push_size g1 nN
  ·rcases ip with rfl | ⟨_,_,_,_,_,_,_,rfl⟩ <;> simp
 ·intro b o hb nf
  obtain ⟨sl,q⟩:=sl1.2.2 b o hb
  exact ⟨sl,by rw [Yj b (Wac hb nf he rfl)]; exact Heap.get?_push_of_some _ q⟩
theorem set_at {x:Value} (z:2 < ws.size):(ws.setIfInBounds 1 x)[1]? = some x:=by
 rw [Array.getElem?_setIfInBounds]
 simp; omega
theorem set_same {x y:Value}:(ws.setIfInBounds 1 x).setIfInBounds 1 y=ws.setIfInBounds 1 y:=by simp
theorem note_x (fr:A.frames=some (env :: outer)) (F:s.heap.FunFrames B (env :: outer)) (hf:env.frame=some L) (he:s.heap.get? e=some { ob with data:=.fields ws }) (st:B.StaysIn s.heap) (new:B.get? e=none) (z:2 < ws.size)
  (h1:ws[1]? = some .none∨∃ T oT ts,ws[1]? = some (.ref T)/\B.get? T=none/\T≠e/\s.heap.get? T=some oT/\oT.data = .fields ts/\ts[3]? = some .none)
  (k:∀ h',FlyX B (env :: outer) e ob ws (rawInt L) h'->s.heap.UpToSlots h'->Q () { s with heap:=h' }):wpAny M A (noteFrame (.ref e) env) Q E s:=by
 unfold noteFrame
 simp only [hf]
 rcases h1 with h1 | ⟨T,oT,ts,h1,nT,ne,hT,dT,h3⟩
 ·refine wpAny_bind (wpAny_field he rfl h1 ?_)
  rw [if_neg (by decide)]
  exact Vbv fr F hf he st new z k
 ·refine wpAny_bind (wpAny_field he rfl h1 ?_)
  rw [if_pos (by simp:(Value.ref T != Value.none)=true)]
  refine wpAny_bind (wpAny_field hT dT h3 ?_)
  rw [if_neg (by simp [rawInt]:¬ (Value.none == rawInt L)=true)]
  refine wpAny_bind (wpAny_setField hT dT (Array.getElem?_eq_some_iff.mp h3).1 ?_)
  refine Vbv (s:={ s with heap:=s.heap.update T _ }) fr (F.of_keeps fun b o hb nf=>⟨o,by rw [Yj b (Wac hb nf hT dT)]; exact hb,rfl⟩) hf (by rw [Yj e (Ne.symm ne)]; exact he) (fun b o q=>by rw [Yj b (Zbp q nT)]; exact st b o q) new z fun h' x u=>k h' x ?_
  intro b o hb nf
  exact u b o (by rw [Yj b (Wac hb nf hT dT)]; exact hb) nf
theorem land_x {l:List Env} {fl:Value} (x:FlyX B l e ob vs fl s.heap) (k:∀ h',FlyX B l e ob vs .none h'->s.heap.UpToSlots h'->Q () { s with heap:=h' }):wpAny M A (setFlight (.ref e) none) Q E s:=by
 obtain ⟨st,new,F,⟨T,oT,ts,he,nT,ne,hT,dT,h3⟩,z⟩:=x
 unfold setFlight
 have z3:=(Array.getElem?_eq_some_iff.mp h3).1
 refine wpAny_bind (wpAny_field he rfl (x:=.ref T) (set_at z) ?_)
 rw [if_pos (by simp:(Value.ref T != Value.none)=true)]
 obtain ⟨c,d,dt,sl⟩:=oT
 cases dT
 refine wpAny_setField hT rfl z3 (k _ ⟨fun b o q=>by rw [Yj b (Zbp q nT)]; exact st b o q,new,F.of_keeps fun b o hb nf=>⟨o,by rw [Yj b (Wac hb nf hT rfl)]; exact hb,rfl⟩,⟨T,_,_,by rw [Yj e (Ne.symm ne)]; exact he,nT,ne,Heap.get?_update_self _ hT rfl,rfl,by simp [z3]⟩,z⟩ fun b o hb nf=>⟨o.slots,by rw [Yj b (Wac hb nf hT rfl)]; exact hb⟩)
theorem leave_x (fr:A.frames=some (env :: outer)) (F:s.heap.FunFrames B (env :: outer)) (hf:env.frame=some L) (he:s.heap.get? e=some { ob with data:=.fields ws }) (st:B.StaysIn s.heap) (new:B.get? e=none) (z:2 < ws.size)
  (h1:ws[1]? = some .none∨∃ T oT ts,ws[1]? = some (.ref T)/\B.get? T=none/\T≠e/\s.heap.get? T=some oT/\oT.data = .fields ts/\ts[3]? = some .none)
  (k:∀ h',FlyX B outer e ob ws .none h'->s.heap.UpToSlots h'->Q () { s with heap:=h' }):wpAny M A (leaving env (.ref e)) Q E s:=by
 unfold leaving
 refine wpAny_bind (note_x fr F hf he st new z h1 fun h' x u=>land_x (s:={ s with heap:=h' }) x fun h2 y v=>k h2 ⟨y.stay,y.new,?_,y.tr,y.two⟩ (u.trans v))
 obtain ⟨_,_,q⟩:=y.fun_
 exact q
theorem TrX.re {x:Value} {h:Heap} {fl:Value} (y:TrX B e ob (vs.setIfInBounds 1 x) fl h):TrX B e ob vs fl h:=by
 obtain ⟨T,oT,ts,he,r⟩:=y
 rw [set_same] at he
 exact ⟨T,oT,ts,he,r⟩
theorem FlyX.re {l:List Env} {x:Value} {h:Heap} {fl:Value} (y:FlyX B l e ob (vs.setIfInBounds 1 x) fl h):FlyX B l e ob vs fl h:=⟨y.stay,y.new,y.fun_,y.tr.re,by have:=y.two; simpa using this⟩
theorem Vcg (fr:A.frames=some (env :: outer)) (hf:env.frame=some L) (x:FlyX B (env :: outer) e ob vs .none s.heap) (k:∀ h',FlyX B outer e ob vs .none h'->s.heap.UpToSlots h'->Q () { s with heap:=h' }) :
  wpAny M A (leaving env (.ref e)) Q E s:=by
 obtain ⟨T,oT,ts,he,r⟩:=x.tr
 have z:=x.two
 exact leave_x fr x.fun_ hf he x.stay x.new (by simpa using z) (.inr ⟨T,oT,ts,set_at z,r⟩) fun h' y u=>k h' y.re u
end
end DW
end
section
namespace DW
open PySem PySem.StrLaws PySem.Builtin PySem.Builtin.Str
def splitC (c:Nat):List Nat->List (List Nat)
 | []=>[[]]
 | x :: xs=>if x=c then [] :: splitC c xs else match splitC c xs with | p :: ps=>(x :: p) :: ps | []=>[[x]]
noncomputable def preC (c:Nat) (x:List Nat):List Nat:=x.takeWhile (· != c)
noncomputable def postC (c:Nat) (x:List Nat):List Nat:=(x.dropWhile (· != c)).drop 1
noncomputable def joinC (sep:List Nat):List (List Nat)->List Nat
 | []=>[]
 | [x]=>x
 | x :: y :: r=>x ++ sep ++ joinC sep (y :: r)
end DW
end
section
namespace DW
open PySem
noncomputable abbrev DKey:=Sum Int (List Nat)
inductive D where
 | non | bl (b:Bool) | int (i:Int) | str (x:List Nat)
 | tup (ds:List D) | lst (ds:List D) | ro (ds:List D) | loc (n:Nat) | dic (ks:List DKey) (ds:List D) | fdc (ks:List DKey) (ds:List D)
inductive Cell where
 | lst (ds:List D) | ins (c:String) (fs:List (String×D)) | dic (ks:List DKey) (ds:List D) | dtc (ks:List (List DKey)) (ds:List D) | fdt (o:Obj) (ks:List (List DKey)) (ds:List D) | exc (c:String) (ks:List String) (ds:List D) | gone | tbl | fdi (o:Obj) (ks:List DKey) (ds:List D)
noncomputable abbrev Mem:=List Cell
noncomputable abbrev Rho:=List (Option D)
noncomputable abbrev QD:=D->Mem->Prop
noncomputable abbrev DSp:=List D->Mem->QD->Prop
noncomputable abbrev QX:=String->List String->List D->Mem->Prop
noncomputable abbrev DSpX:=List D->Mem->QD->QX->Prop
mutual
inductive E where
 | var (i:Nat) | cst (d:D) | gbl (x:Str) (d:D)
 | bin (op:Operator) (a b:E) | neg (a:E) | not (a:E)
 | cmp (op:CmpOp) (a b:E) | cmpS (neg:Bool) (a b:E) | cmpT (neg:Bool) (a b:E) | chain (p q:CmpOp) (a b c:E)
 | and (a b:E) | or (a b:E)
 | call (x:Str) (sp:DSp) (as:Es) | blt (x:String) (as:Es) | bltD (x:String) (a b:E)
 | isin (a:E) (t:String) (ks:Option (List (List Nat)):=none) | lset (a:E)
 | meth (m:String) (o:E) (as:Es) | sqm (m:String) (o:E) (as:Es)
 | idx (a b:E) | slc (m:Bool) (a:E) (lo hi:Es)
 | tup (as:Es) | lst (m:Bool) (as:Es) | dsp (ks:List DKey) (as:Es)
 | comp (m:Bool) (tg:Nat) (tt:Bool) (cap:List Nat) (elt:E) (it:It) (cond:Es)
 | frz (a:E) (th:Option Nat:=none) | lrng (m:Option Bool) (a:E) (r:Bool:=false)
 | dget (o i:E)
inductive Es where
 | nil | cons (e:E) (es:Es)
inductive It where
 | seq (e:E) | rng (as:Es) | enum (a:E)
end
mutual
inductive S where
 | set (i:Nat) (e:E) | setT (is:List Nat) (e:E)
 | dput (o i e:E) | setIx (o i e:E) | aug (i:Nat) (op:Operator) (e:E)
 | exp (e:E) | ret (e:E)
 | ite (c:E) (a b:Ss) | for_ (tg:List Nat) (tt:Bool) (it:It) (b:Ss) | whl (c:E) (b:Ss)
 | nev
inductive Ss where
 | nil | cons (s:S) (r:Ss)
end
noncomputable def b2i (b:Bool):Int:=if b then 1 else 0
mutual
noncomputable def flat:Nat->D->Bool
 | _,.non=>true
 | _,.bl _=>true
 | _,.int _=>true
 | _,.str x=>x.all (· < 1114112)
 | n + 1,.tup ds=>flats n ds
 | n + 1,.lst ds=>flats n ds
 | _,_=>false
noncomputable def flats:Nat->List D->Bool
 | _,[]=>true
 | n,d :: ds=>flat n d && flats n ds
end
mutual
noncomputable def Xp:Nat->D->Bool
 | _,.non=>true
 | _,.bl _=>true
 | _,.int _=>true
 | _,.str _=>true
 | _,.loc _=>true
 | n + 1,.tup ds=>Yae n ds
 | n + 1,.lst ds=>Yae n ds
 | _,_=>false
noncomputable def Yae:Nat->List D->Bool
 | _,[]=>true
 | n,d :: ds=>Xp n d && Yae n ds
end
mutual
noncomputable def eqD:D->D->Bool
 | .non,e=>match e with | .non=>true | _=>false
 | .bl a,e=>match e with | .bl b=>a == b | .int j=>b2i a == j | _=>false
 | .int i,e=>match e with | .int j=>i == j | .bl b=>i == b2i b | _=>false
 | .str x,e=>match e with | .str y=>x == y | _=>false
 | .tup ds,e=>match e with | .tup es=>eqDs ds es | _=>false
 | .lst ds,e=>match e with | .lst es=>eqDs ds es | _=>false
 | .ro ds,_=>false
 | .loc _,_=>false
 | .dic ks ds,e=>match e with | .dic ls es=>decide (ks=ls) && eqDs ds es | _=>false
 | .fdc _ _,_=>false
noncomputable def eqDs:List D->List D->Bool
 | [],es=>es.isEmpty
 | d :: ds,es=>match es with | []=>false | e :: es=>eqD d e && eqDs ds es
end
noncomputable def ltCs:List Nat->List Nat->Bool
 | _,[]=>false
 | [],_ :: _=>true
 | x :: xs,y :: ys=>if x=y then ltCs xs ys else decide (x < y)
noncomputable def sc2:D->Bool
 | .int _=>true
 | .str _=>true
 | _=>false
mutual
noncomputable def ltD:D->D->Option Bool
 | .int i,e=>match e with | .int j=>some (decide (i < j)) | _=>none
 | .str x,e=>match e with | .str y=>some (ltCs x y) | _=>none
 | .tup ds,e=>match e with | .tup es=>if (ds.all sc2 && es.all sc2)=true then ltDs ds es else none | _=>none
 | _,_=>none
noncomputable def ltDs:List D->List D->Option Bool
 | [],es=>some (!es.isEmpty)
 | d :: ds,es=>match es with
  | []=>some false
  | e :: es=>if eqD d e then ltDs ds es else ltD d e
end
noncomputable abbrev Itm:=Int×List Nat
noncomputable def itD (x:Itm):D:=.tup [.int x.1,.str x.2]
noncomputable def Zb (μ:Mem):D->Option (List D)
 | .lst ds=>some ds
 | .tup ds=>some ds
 | .ro ds=>some ds
 | .loc n=>match μ[n]? with | some (.lst ds)=>some ds | _=>none
 | _=>none
noncomputable def lenOf (μ:Mem):D->Option Nat
 | .str x=>some x.length
 | d=>(Zb μ d).map (·.length)
noncomputable def Zf (μ:Mem):D->Option (List D)
 | .tup _=>none
 | d=>Zb μ d
noncomputable def truth (μ:Mem):D->Option Bool
 | .non=>some false
 | .bl b=>some b
 | .int i=>some (i != 0)
 | .dic ks _=>some (ks.length != 0)
 | d=>(lenOf μ d).map (· != 0)
noncomputable def isTy (have_ want:String):Bool:=have_ == want || (have_ == "bool" && want == "int")
noncomputable def tyOf (μ:Mem):D->Option String
 | .non=>some "NoneType" | .bl _=>some "bool" | .int _=>some "int" | .str _=>some "str"
 | .tup _=>some "tuple" | .lst _=>some "list" | .dic _ _=>some "dict" | .ro _=>none | .fdc _ _=>none
 | .loc n=>match μ[n]? with | some (.lst _)=>some "list" | some (.dic _ _)=>some "dict" | _=>none
noncomputable def Ws (t:String) (d:D) (μ:Mem) (Q:QD):Prop:=match tyOf μ d with
 | some h=>Q (.bl (isTy h t)) μ
 | none=>False
noncomputable def wInK (ks:List (List Nat)) (d:D) (μ:Mem) (Q:QD):Prop:=match d with
 | .str t=>Q (.bl (ks.contains t)) μ
 | _=>False
noncomputable def Zg (lo:Int) (n:Nat):List D:=(List.range n).map fun (k:Nat)=>D.int (lo + (k:Int))
noncomputable def ixD (n:Nat) (i:Int):Option Nat:=if 0<=i then (if i < n then some i.toNat else none) else if -(n:Int)<=i then some (i + n).toNat else none
noncomputable def sIxD (n d:Nat):Option Int->Nat
 | none=>d
 | some v=>if v < 0 then (v + (n:Int)).toNat else min v.toNat n
noncomputable def cutD {α:Type} (xs:List α) (lo hi:Option Int):List α:=(xs.drop (sIxD xs.length 0 lo)).take (sIxD xs.length xs.length hi - sIxD xs.length 0 lo)
noncomputable def lim:Nat:=16777216
noncomputable def newL (m:Bool) (ds:List D) (μ:Mem) (Q:QD):Prop:=match m with
 | true=>Q (.loc μ.length) (μ ++ [.lst ds])
 | false=>Q (.lst ds) μ
noncomputable def newR:Option Bool->List D->Mem->QD->Prop
 | some m,ds,μ,Q=>newL m ds μ Q
 | none,ds,μ,Q=>Q (.tup ds) μ
noncomputable def wRvl:Option Bool->D->Mem->QD->Prop
 | some m,d,μ,Q=>(match Zf μ d with | some as=>newL m as.reverse μ Q | none=>False)
 | none,d,μ,Q=>(match d with | .tup ds=>Q (.tup ds.reverse) μ | _=>False)
noncomputable def lrM (r:Bool):String:=if r then "reversed" else "range"
noncomputable def lrN:Option Bool->String
 | some _=>"list"
 | none=>"tuple"
noncomputable def Xa1 (i j:Int):Prop:=(-(2 ^ 64) < i/\i < 2 ^ 64)∨(-(2 ^ 64) < j/\j < 2 ^ 64)
noncomputable def Wa1 (j:Int):Prop:=0 < j/\j < 2 ^ 500
noncomputable def CPowD (i j:Int):Prop:=0<=j/\j<=1000000/\i.natAbs < 2 ^ 64
noncomputable def wBin (op:Operator) (x y:D) (μ:Mem) (Q:QD):Prop :=
 match x,y with
 | .int i,.int j=>match op with
  | .Add=>Q (.int (i + j)) μ
  | .Sub=>Q (.int (i - j)) μ
  | .Mult=>Xa1 i j/\Q (.int (i * j)) μ
  | .FloorDiv=>Wa1 j/\Q (.int (i / j)) μ
  | .Mod=>0 < j/\Q (.int (i % j)) μ
  | .Pow=>CPowD i j/\Q (.int (i ^ j.toNat)) μ
  | _=>False
 | .str a,.str b=>match op with
  | .Add=>a.length + b.length<=lim/\Q (.str (a ++ b)) μ
  | _=>False
 | .str a,.int k=>match op with
  | .Mult=>(0<=k/\k<=1000/\1<=a.length/\a.length<=1000)/\Q (.str (List.replicate k.toNat a).flatten) μ
  | _=>False
 | .lst a,.lst b=>match op with
  | .Add=>a.length + b.length<=lim/\Q (.lst (a ++ b)) μ
  | _=>False
 | .tup a,.tup b=>match op with
  | .Add=>a.length + b.length<=lim/\Q (.tup (a ++ b)) μ
  | _=>False
 | _,_=>False
noncomputable def sameOk (μ:Mem) (d:D):Bool:=match d with
 | .loc n=>match μ[n]? with | some (.dic ks ds)=>ks.length == 1 && ds.all sc2 | _=>false
 | d=>Xp 60 d
noncomputable def wSame (neg:Bool) (x y:D) (μ:Mem) (Q:QD):Prop:=x=y/\sameOk μ x=true/\Q (.bl (!neg)) μ
noncomputable def thaw (μ:Mem):Nat->D->D
 | 0,d=>d
 | n + 1,d=>match d with
  | .tup ds=>.tup (ds.map (thaw μ n))
  | .lst ds=>.lst (ds.map (thaw μ n))
  | .loc k=>match μ[k]? with | some (.lst ds)=>.lst (ds.map (thaw μ n)) | _=>.loc k
  | d=>d
noncomputable def wEqT (neg:Bool) (x y:D) (μ:Mem) (Q:QD):Prop:=flat 60 (thaw μ 8 x)=true/\flat 60 (thaw μ 8 y)=true/\Q (.bl (neg != eqD (thaw μ 8 x) (thaw μ 8 y))) μ
noncomputable def Wbt:D->Bool
 | .non=>true
 | _=>false
noncomputable def keyD:D->Option DKey
 | .int i=>some (.inl i)
 | .str x=>some (.inr x)
 | _=>none
noncomputable def keyDs:List D->Option (List DKey)
 | []=>some []
 | d :: ds=>match keyD d with | some k=>(keyDs ds).map (k :: ·) | none=>none
noncomputable def hasK {κ:Type} [DecidableEq κ] (ks:List κ) (k:κ):Bool:=decide (k∈ks)
theorem Va5 {κ:Type} [DecidableEq κ] {ks:List κ} {k:κ}:hasK ks k=true<->k∈ks:=by unfold hasK; simp
noncomputable def wInD (neg:Bool) (x y:D) (μ:Mem) (Q:QD):Prop:=match y with
 | .loc n=>(match μ[n]? with
  | some (.dic ks _)=>(match keyD x with | some k=>Q (.bl (neg != hasK ks k)) μ | none=>False)
  | _=>False)
 | _=>False
noncomputable def Xbh (d:D) (μ:Mem) (Q:QD):Prop:=match d with
 | .loc n=>(match μ[n]? with | some (.dic ks _)=>Q (.int ks.length) μ | _=>False)
 | _=>False
noncomputable def wNeE (n:Nat) (y:D) (μ:Mem) (Q:QD):Prop:=match μ[n]? with
 | some (.lst ds)=>(match y with | .lst []=>Q (.bl (!ds.isEmpty)) μ | _=>False)
 | _=>False
noncomputable def wCmp (op:CmpOp) (x y:D) (μ:Mem) (Q:QD):Prop :=
 match op with
 | .Eq=>flat 60 x=true/\flat 60 y=true/\Q (.bl (eqD x y)) μ
 | .NotEq=>match x with
  | .loc n=>wNeE n y μ Q
  | x=>flat 60 x=true/\flat 60 y=true/\Q (.bl (!eqD x y)) μ
 | .Lt=>match ltD x y with | some b=>Q (.bl b) μ | none=>False
 | .LtE=>match x,y with
  | .int i,.int j=>Q (.bl (decide (i<=j))) μ
  | .str a,.str b=>Q (.bl (!ltCs b a)) μ
  | _,_=>False
 | .Gt=>match x,y with
  | .int i,.int j=>Q (.bl (decide (j < i))) μ
  | _,_=>False
 | .GtE=>match x,y with
  | .int i,.int j=>Q (.bl (decide (j<=i))) μ
  | _,_=>False
 | .Is=>match y with | .non=>Q (.bl (Wbt x)) μ | .bl b=>(match x with | .bl a=>Q (.bl (a == b)) μ | _=>False) | _=>False
 | .IsNot=>match y with | .non=>Q (.bl (!Wbt x)) μ | .bl b=>(match x with | .bl a=>Q (.bl (a != b)) μ | _=>False) | _=>False
 | .In=>match y with
  | .str t=>(match x with | .str a=>(match a with | [c]=>Q (.bl (t.contains c)) μ | _=>False) | _=>False)
  | y=>(match Zb μ y with | some ds=>flats 60 ds=true/\flat 60 x=true/\Q (.bl (ds.any fun d=>eqD d x)) μ | none=>wInD false x y μ Q)
 | .NotIn=>match y with
  | .str t=>(match x with | .str a=>(match a with | [c]=>Q (.bl (!t.contains c)) μ | _=>False) | _=>False)
  | y=>(match Zb μ y with | some ds=>flats 60 ds=true/\flat 60 x=true/\Q (.bl (!ds.any fun d=>eqD d x)) μ | none=>wInD true x y μ Q)
noncomputable def allB:List D->Option Bool
 | []=>some true
 | .bl b :: ds=>(allB ds).map (b && ·)
 | _ :: _=>none
noncomputable def anyB:List D->Option Bool
 | []=>some false
 | .bl b :: ds=>(anyB ds).map (b || ·)
 | _ :: _=>none
noncomputable def We:List D->Option (List Int)
 | []=>some []
 | .int i :: ds=>(We ds).map (i :: ·)
 | _ :: _=>none
noncomputable def Yt (ns:List Int):Nat:=(ns.foldl (fun (a:List Int) x=>if a.any (· == x) then a else a ++ [x]) []).length
noncomputable def Zbh (d:D) (μ:Mem) (Q:QD):Prop:=match (Zb μ d).bind We with
 | some ns=>ns.length < 1000/\Q (.int (Yt ns:Nat)) μ
 | none=>False
noncomputable def knownB:List String:=["len","abs","all","sum","max","min","list","mlist","tuple","divmod","int","repr","any"]
noncomputable def wB3 (b:String) (d e f:D) (μ:Mem) (Q:QD):Prop:=match b with
 | "min3"=>(match d,e,f with | .int i,.int j,.int k=>Q (.int (min (min i j) k)) μ | _,_,_=>False)
 | _=>False
theorem wB3_no {b:String} {d e f:D} {μ:Mem} {Q:QD} (hb:b≠"min3"):¬ wB3 b d e f μ Q:=by
 unfold wB3
 split
 ·exact absurd rfl hb
 ·exact id
noncomputable def allS {α:Type}:List (Option α)->Option (List α)
 | []=>some []
 | some a :: l=>(allS l).map (a :: ·)
 | none :: _=>none
noncomputable def keyP:DKey->PyData
 | .inl i=>.int i
 | .inr x=>.str ⟨x.toArray⟩
noncomputable def dctP (ks:List DKey) (ps:List PyData):PyData:=.dict ((ks.map keyP).zip ps)
noncomputable def datM (μ:Mem):Nat->D->Option PyData
 | 0,d=>match d with | .non=>some .none | .bl b=>some (.bool b) | .int i=>some (.int i) | .str x=>some (.str ⟨x.toArray⟩) | _=>none
 | n + 1,d=>match d with
  | .non=>some .none
  | .bl b=>some (.bool b)
  | .int i=>some (.int i)
  | .str x=>some (.str ⟨x.toArray⟩)
  | .tup ds=>(allS (ds.map (datM μ n))).map PyData.tuple
  | .lst ds=>(allS (ds.map (datM μ n))).map PyData.list
  | .loc k=>(match μ[k]? with | some (.lst ds)=>(allS (ds.map (datM μ n))).map PyData.list | some (.dic ks ds)=>(allS (ds.map (datM μ n))).map (dctP ks) | _=>none)
  | .dic ks ds=>(allS (ds.map (datM μ n))).map (dctP ks)
  | _=>none
noncomputable def rprOk:D->Bool
 | .ro _=>false
 | .fdc _ _=>false
 | _=>true
noncomputable def wRpr (d:D) (μ:Mem) (Q:QD):Prop:=rprOk d=true/\∃ n p,datM μ n d=some p/\p.showable=true/\p.leavesShort 60=true/\p.weight<=100000/\p.depth<=62/\Q (.str p.shown.cps.toList) μ
noncomputable def wKys (d:D) (μ:Mem) (Q:QD):Prop:=False
noncomputable def ltI:List Int->List Int->Bool
 | _,[]=>false
 | [],_ :: _=>true
 | x :: xs,y :: ys=>if x=y then ltI xs ys else decide (x < y)
noncomputable def wBlt (b:String) (ds:List D) (μ:Mem) (Q:QD):Prop :=
 match ds with
 | [d]=>match b with
  | "len"=>match lenOf μ d with | some n=>Q (.int n) μ | none=>Xbh d μ Q
  | "abs"=>match d with | .int i=>Q (.int (if i < 0 then -i else i)) μ | _=>False
  | "all"=>match (Zf μ d).bind allB with | some r=>Q (.bl r) μ | none=>False
  | "any"=>match (Zf μ d).bind anyB with | some r=>Q (.bl r) μ | none=>False
  | "sum"=>match (Zb μ d).bind We with | some r=>Q (.int r.sum) μ | none=>False
  | "max"=>match (Zf μ d).bind We with | some (i :: is)=>Q (.int (is.foldl max i)) μ | _=>False
  | "min"=>match (Zf μ d).bind We with | some (i :: is)=>Q (.int (is.foldl min i)) μ | _=>False
  | "list"=>match Zb μ d with | some es=>Q (.lst es) μ | none=>wKys d μ Q
  | "mlist"=>match Zb μ d with | some es=>newL true es μ Q | none=>False
  | "int"=>match d with | .int i=>Q (.int i) μ | .bl b=>Q (.int (if b then 1 else 0)) μ | .str x=>∃ n:Int,(x.length<=640/\intText? ⟨x.toArray⟩=some n)/\Q (.int n) μ | _=>False
  | "tuple"=>match Zb μ d with | some es=>Q (.tup es) μ | none=>False
  | "repr"=>wRpr d μ Q
  | _=>False
 | [d,e]=>match b with
  | "divmod"=>match d,e with | .int i,.int j=>Wa1 j/\Q (.tup [.int (i / j),.int (i % j)]) μ | _,_=>False
  | "max"=>match d,e with | .int i,.int j=>Q (.int (if j > i then j else i)) μ | _,_=>False
  | "min"=>match d,e with | .int i,.int j=>Q (.int (if j < i then j else i)) μ | _,_=>False
  | _=>False
 | [d,e,f]=>wB3 b d e f μ Q
 | _=>False
noncomputable def wBltM (d e:D) (μ:Mem) (Q:QD):Prop :=
 match (Zf μ d).bind We with
 | some []=>Q e μ
 | some (i :: is)=>Q (.int (is.foldl max i)) μ
 | _=>False
noncomputable def wDd1 (n:Nat) (d e:D) (μ:Mem) (Q:QD):Prop:=match keyD d with
 | some k=>μ[n]? = some (.dic [] [])/\Q (.loc n) (μ.set n (.dic [k] [e]))
 | none=>False
noncomputable def wDdT (n:Nat) (d e:D) (μ:Mem) (Q:QD):Prop:=match d with
 | .tup ds=>(match keyDs ds with
  | some k=>μ[n]? = some (.dtc [] [])/\Q (.loc n) (μ.set n (.dtc [k] [e]))
  | none=>False)
 | _=>False
noncomputable def V7 {κ:Type} [DecidableEq κ]:List κ->List D->κ->Option D
 | k' :: ks,d :: ds,k=>if k'=k then some d else V7 ks ds k
 | _,_,_=>none
noncomputable def wKso (d e:D) (μ:Mem) (Q:QD):Prop:=match (Zf μ d).bind We with
 | some is=>is.length < 64/\(∃ i:Nat,μ[i]? = some .tbl)/\(match e with
  | .tup [.loc a,.loc b]=>∃ (sz:List Int) (fs:List D),μ[a]? = some (.lst (sz.map D.int))/\μ[b]? = some (.lst fs)/\(∀ z∈is,0<=z/\z < (sz.length:Int))/\∀ is':List Int,is'.Perm is->Q (.lst (is'.map .int)) μ
  | _=>False)
 | none=>False
noncomputable def wDen (d:D) (μ:Mem) (Q:QD):Prop:=match Zf μ d with
 | some ds=>Q (.loc μ.length) (μ ++ [.dic ((List.range ds.length).map fun (n:Nat)=>Sum.inl (n:Int)) ds])
 | none=>False
noncomputable def Zbi (b:String) (n:Nat) (d e:D) (μ:Mem) (Q:QD):Prop:=if b = "{}" then wDd1 n d e μ Q else if b = "{t}" then wDdT n d e μ Q else if b = "ksort" then wKso d e μ Q else if b = "dicten" then wDen d μ Q else wBltM d e μ Q
noncomputable def Zay {κ:Type} [DecidableEq κ] (ks:List κ) (k:κ):List κ:=if k∈ks then ks else ks ++ [k]
noncomputable def Vax {κ:Type} [DecidableEq κ] (ks:List κ) (ds:List D) (k:κ) (d:D):List D:=if k∈ks then List.zipWith (fun k' d'=>if k'=k then d else d') ks ds else ds ++ [d]
noncomputable def Vbh (x y:D) (μ:Mem) (Q:QD):Prop:=match x with
 | .loc n=>match μ[n]? with
  | some (.dic ks ds)=>(match keyD y with | some k=>(match V7 ks ds k with | some d=>Q d μ | none=>False) | none=>False)
  | some (.fdi _ ks ds)=>(match keyD y with | some k=>(match V7 ks ds k with | some d=>Q d μ | none=>False) | none=>False)
  | _=>False
 | _=>False
noncomputable def Wbh (x y v:D) (μ:Mem) (k:Mem->Prop):Prop:=match x with
 | .loc n=>match μ[n]? with
  | some (.dic ks ds)=>(match keyD y with | some q=>ks.length < lim/\k (μ.set n (.dic (Zay ks q) (Vax ks ds q v))) | none=>False)
  | _=>False
 | _=>False
noncomputable def isCell (μ:Mem):D->Bool
 | .loc n=>match μ[n]? with | some (.lst _)=>true | _=>false
 | _=>false
noncomputable def Wj (m:String) (n:Nat) (xs:List D) (ds:List D) (μ:Mem) (Q:QD):Prop :=
 match ds with
 | []=>match m with
  | "pop"=>match xs[xs.length - 1]? with | some d=>Q d (μ.set n (.lst xs.dropLast)) | none=>False
  | _=>False
 | [d]=>match m with
  | "append"=>xs.length < lim/\Q .non (μ.set n (.lst (xs ++ [d])))
  | "pop"=>match d with | .int k=>(match ixD xs.length k with | some p=>(match xs[p]? with | some e=>Q e (μ.set n (.lst (xs.eraseIdx p))) | none=>False) | none=>False) | _=>False
  | _=>False
 | [.int k,d]=>match m with
  | _=>False
 | _=>False
noncomputable def Xy (m:String) (o:D) (ds:List D) (μ:Mem) (Q:QD):Prop :=
 match o with
 | .loc n=>match μ[n]? with
  | some (.lst xs)=>Wj m n xs ds μ Q
  | _=>False
 | _=>False
noncomputable def strsD:List D->Option (List (List Nat))
 | []=>some []
 | .str x :: ds=>(strsD ds).map (x :: ·)
 | _ :: _=>none
noncomputable def txM (m:String):Bool:=["join","split","partition","startswith"].contains m
noncomputable def isTx:D->Bool
 | .str _=>true
 | _=>false
noncomputable def wTxt1 (m:String) (t:List Nat) (c:Nat) (μ:Mem) (Q:QD):Prop:=match m with
 | "split"=>(c < 256/\t.length < lim)/\∃ m:Bool,newL m ((splitC c t).map .str) μ Q
 | "partition"=>if c∈t then Q (.tup [.str (preC c t),.str [c],.str (postC c t)]) μ else Q (.tup [.str t,.str [],.str []]) μ
 | "startswith"=>Q (.bl (t.head? == some c)) μ
 | _=>False
noncomputable def wTxt (m:String) (x:D) (es:List D) (μ:Mem) (Q:QD):Prop:=match x with
 | .str t=>(match es with
  | [.str [c]]=>wTxt1 m t c μ Q
  | [d]=>(match (Zf μ d).bind strsD with
   | some ws=>m = "join"/\(ws.map List.length).sum + ws.length * t.length<=lim/\Q (.str (joinC t ws)) μ
   | none=>False)
  | _=>False)
 | _=>False
noncomputable def isLs (μ:Mem):D->Bool
 | .lst _=>true
 | .loc n=>match μ[n]? with | some (.lst _)=>true | _=>false
 | _=>false
noncomputable def wSqk (m:String) (ns:List Int) (k:Int) (μ:Mem) (Q:QD):Prop:=match m with | "index"=>k∈ns/\Q (.int (ns.idxOf k:Nat)) μ | "count"=>Q (.int (ns.count k:Nat)) μ | _=>False
noncomputable def isDc (μ:Mem):D->Bool
 | .loc n=>match μ[n]? with | some (.dic _ _)=>true | _=>false
 | _=>false
noncomputable def isSq (m:String) (μ:Mem) (d:D):Bool:=if m = "get"∨m = "pop" then isDc μ d else if txM m=true then isTx d else isLs μ d
noncomputable def wDg2 (x:D) (es:List D) (μ:Mem) (Q:QD):Prop:=match x with
 | .loc n=>(match μ[n]? with
  | some (.dic ks ds)=>(match es with | [k,z]=>(match keyD k with | some q=>Q ((V7 ks ds q).getD z) μ | none=>False) | _=>False)
  | _=>False)
 | _=>False
noncomputable def Xu {κ:Type} [DecidableEq κ]:List κ->κ->List κ
 | k' :: ks,k=>if k'=k then Xu ks k else k' :: Xu ks k
 | [],_=>[]
noncomputable def Yu {κ:Type} [DecidableEq κ]:List κ->List D->κ->List D
 | k' :: ks,d :: ds,k=>if k'=k then Yu ks ds k else d :: Yu ks ds k
 | _,_,_=>[]
noncomputable def wDpo (x:D) (es:List D) (μ:Mem) (Q:QD):Prop:=match x with
 | .loc n=>(match μ[n]? with
  | some (.dic ks ds)=>(match es with | [k]=>(match keyD k with | some q=>(match V7 ks ds q with | some d=>Q d (μ.set n (.dic (Xu ks q) (Yu ks ds q))) | none=>False) | none=>False) | _=>False)
  | _=>False)
 | _=>False
noncomputable def wIxi (x:D) (es:List D) (μ:Mem) (Q:QD):Prop:=∃ (r:List Itm) (y:Itm) (j:Nat),Zf μ x=some (r.map itD)/\es=[itD y]/\r[j]? = some y/\(∀ m,m < j->r[m]?≠some y)/\Q (.int (j:Nat)) μ
noncomputable def wSqn (m:String) (x:D) (es:List D) (μ:Mem) (Q:QD):Prop:=match (Zf μ x).bind We with
 | some ns=>(match es with
  | [.int k]=>wSqk m ns k μ Q
  | _=>False)
 | none=>m = "index"/\wIxi x es μ Q
noncomputable def wSqm (m:String) (x:D) (es:List D) (μ:Mem) (Q:QD):Prop:=if m = "get" then wDg2 x es μ Q else if m = "pop" then wDpo x es μ Q else if txM m=true then wTxt m x es μ Q else wSqn m x es μ Q
noncomputable def wIdx (x y:D) (μ:Mem) (Q:QD):Prop :=
 match x,y with
 | x,.int i=>match Zb μ x with
  | some ds=>match (ixD ds.length i).bind (ds[·]?) with | some d=>Q d μ | none=>False
  | none=>False
 | _,_=>False
noncomputable def wSlc (m:Bool) (x:D) (lo hi:Option Int) (μ:Mem) (Q:QD):Prop :=
 match x with
 | .lst ds=>newL m (cutD ds lo hi) μ Q
 | .tup ds=>Q (.tup (cutD ds lo hi)) μ
 | .loc n=>match μ[n]? with | some (.lst ds)=>newL m (cutD ds lo hi) μ Q | _=>False
 | _=>False
noncomputable def wFrz (d:D) (μ:Mem) (Q:QD):Prop :=
 match d with
 | .loc n=>match μ[n]? with | some (.lst ds)=>Q (.lst ds) (μ.set n .gone) | _=>False
 | d=>Q d μ
noncomputable def wTru (d:D) (μ:Mem) (Q:Bool->Mem->Prop):Prop:=match truth μ d with | some b=>Q b μ | none=>False
noncomputable def wBl (d:D) (μ:Mem) (Q:Bool->Mem->Prop):Prop:=match d with | .bl b=>Q b μ | _=>False
noncomputable def wInt (d:D) (μ:Mem) (Q:Int->Mem->Prop):Prop:=match d with | .int i=>Q i μ | _=>False
noncomputable abbrev QI:=List D->(Mem->Prop)->Mem->Prop
noncomputable def wSeq (d:D) (μ:Mem) (Q:QI):Prop :=
 match d with
 | .lst ds=>Q ds (fun _=>True) μ
 | .tup ds=>Q ds (fun _=>True) μ
 | .ro ds=>Q ds (fun _=>True) μ
 | .loc n=>match μ[n]? with
  | some (.lst ds)=>Q ds (fun μ'=>μ'[n]? = some (.lst ds)) μ
  | some (.fdi o ks ds)=>∃ is:List Int,ks=is.map Sum.inl/\Q (is.map .int) (fun μ'=>μ'[n]? = some (.fdi o ks ds)) μ
  | _=>False
 | _=>False
noncomputable def wRng (n:Nat) (ds:List D) (μ:Mem) (Q:QI):Prop :=
 match n,ds with
 | 1,[.int j]=>j<=lim/\-(2 ^ 62)<=j/\Q (Zg 0 j.toNat) (fun _=>True) μ
 | _,_=>False
noncomputable def Zt (k:Nat):List D->List D
 | []=>[]
 | d :: ds=>.tup [.int (k:Int),d] :: Zt (k + 1) ds
noncomputable def Xa9 (x:D) (μ:Mem) (Q:QI):Prop:=match Zf μ x with
 | some as=>Q (Zt 0 as) (fun μ'=>Zf μ' x=some as) μ
 | none=>False
noncomputable def Zq (is:List Nat) (tt:Bool) (d:D) (ρ:Rho) (k:Rho->Prop):Prop :=
 match tt with
 | false=>match is with | [i]=>k (ρ.set i (some d)) | _=>False
 | true=>match d with | .tup ds=>ds.length=is.length/\k ((is.zip ds).foldl (fun r p=>r.set p.1 (some p.2)) ρ) | _=>False
noncomputable def bindC (n:Nat) (tt:Bool) (d:D) (r:Rho) (k:Rho->Prop):Prop :=
 match tt with
 | false=>k (some d :: r)
 | true=>match d with | .tup ds=>ds.length=n/\k (ds.map some ++ r) | _=>False
noncomputable def Wy (bnd:D->(Rho->Prop)->Prop) (cw:Rho->Mem->(Bool->Mem->Prop)->Prop) (ew:Rho->Mem->QD->Prop) (g:Mem->Prop):List D->List D->Mem->(List D->Mem->Prop)->Prop
 | [],acc,μ,Q=>g μ/\Q acc μ
 | d :: ds,acc,μ,Q=>g μ/\bnd d fun ρ=>cw ρ μ fun b μ1=>if b=true then ew ρ μ1 fun v μ2=>Wy bnd cw ew g ds (acc ++ [v]) μ2 Q else Wy bnd cw ew g ds acc μ1 Q
noncomputable def Yap:Es->Nat
 | .nil=>0
 | .cons _ es=>Yap es + 1
mutual
noncomputable def wE:E->Rho->Mem->QD->Prop
 | .var i,ρ,μ,Q=>match ρ[i]? with | some (some d)=>Q d μ | _=>False
 | .cst d,_,μ,Q=>Q d μ
 | .gbl _ d,_,μ,Q=>Q d μ
 | .bin op a b,ρ,μ,Q=>wE a ρ μ fun x μ1=>wE b ρ μ1 fun y μ2=>wBin op x y μ2 Q
 | .neg a,ρ,μ,Q=>wE a ρ μ fun x μ1=>match x with | .int i=>Q (.int (-i)) μ1 | _=>False
 | .not a,ρ,μ,Q=>wE a ρ μ fun x μ1=>wBl x μ1 fun b μ2=>Q (.bl (!b)) μ2
 | .cmp op a b,ρ,μ,Q=>wE a ρ μ fun x μ1=>wE b ρ μ1 fun y μ2=>wCmp op x y μ2 Q
 | .cmpS n a b,ρ,μ,Q=>wE a ρ μ fun x μ1=>wE b ρ μ1 fun y μ2=>wSame n x y μ2 Q
 | .cmpT n a b,ρ,μ,Q=>wE a ρ μ fun x μ1=>wE b ρ μ1 fun y μ2=>wEqT n x y μ2 Q
 | .chain p q a b c,ρ,μ,Q=>wE a ρ μ fun x μ1=>wE b ρ μ1 fun y μ2=>wCmp p x y μ2 fun r μ3=>wBl r μ3 fun t μ3 =>
   if t=true then wE c ρ μ3 fun z μ4=>wCmp q y z μ4 Q else Q (.bl false) μ3
 | .and a b,ρ,μ,Q=>wE a ρ μ fun x μ1=>wBl x μ1 fun t μ2=>if t=true then wE b ρ μ2 Q else Q (.bl false) μ2
 | .or a b,ρ,μ,Q=>wE a ρ μ fun x μ1=>wBl x μ1 fun t μ2=>if t=true then Q (.bl true) μ2 else wE b ρ μ2 Q
 | .call _ sp as,ρ,μ,Q=>wEs as ρ μ fun ds μ1=>sp ds μ1 Q
 | .blt x as,ρ,μ,Q=>wEs as ρ μ fun ds μ1=>wBlt x ds μ1 Q
 | .bltD x a b,ρ,μ,Q=>wE a ρ (if x = "{}" then μ ++ [.dic [] []] else if x = "{t}" then μ ++ [.dtc [] []] else μ) fun d μ1=>wE b ρ μ1 fun e μ2=>Zbi x μ.length d e μ2 Q
 | .isin a t,ρ,μ,Q=>wE a ρ μ fun d μ1=>Ws t d μ1 Q
 | .isin a _ (some ks),ρ,μ,Q=>wE a ρ μ fun d μ1=>wInK ks d μ1 Q
 | .lset a,ρ,μ,Q=>wE a ρ μ fun d μ1=>Zbh d μ1 Q
 | .meth m o as,ρ,μ,Q=>wE o ρ μ fun x μ1=>isCell μ1 x=true/\wEs as ρ μ1 fun ds μ2=>Xy m x ds μ2 Q
 | .sqm m o as,ρ,μ,Q=>wE o ρ μ fun x μ1=>isSq m μ1 x=true/\wEs as ρ μ1 fun ds μ2=>wSqm m x ds μ2 Q
 | .idx a b,ρ,μ,Q=>wE a ρ μ fun x μ1=>wE b ρ μ1 fun y μ2=>wIdx x y μ2 Q
 | .slc m a lo hi,ρ,μ,Q=>wE a ρ μ fun x μ1=>wO lo ρ μ1 fun l μ2=>wO hi ρ μ2 fun h μ3=>wSlc m x l h μ3 Q
 | .tup as,ρ,μ,Q=>wEs as ρ μ fun ds μ1=>ds.length<=lim/\Q (.tup ds) μ1
 | .lst m as,ρ,μ,Q=>wEs as ρ μ fun ds μ1=>ds.length<=lim/\newL m ds μ1 Q
 | .dsp ks as,ρ,μ,Q=>wEs as ρ μ fun ds μ1=>ks.length=ds.length/\Q (.loc μ1.length) (μ1 ++ [.dic ks ds])
 | .comp m n tt cap elt it cond,ρ,μ,Q=>wI it ρ μ fun ds g μ1 =>
   Wy (fun d k=>bindC n tt d (cap.map fun i=>(ρ[i]?).join) k) (fun ρ' μ' Q'=>wTs cond ρ' μ' Q') (fun ρ' μ' Q'=>wE elt ρ' μ' Q') g ds [] μ1 fun vs μ2=>newL m vs μ2 Q
 | .frz a,ρ,μ,Q=>wE a ρ μ fun d μ1=>wFrz d μ1 Q
 | .frz a (some i),ρ,μ,Q=>match ρ[i]? with
  | some (some (.loc n))=>(match μ[n]? with
   | some (.dic ks ds)=>∀ o,wE a ρ (μ.set n (.fdi o ks ds)) fun d μ1=>μ1[n]? = some (.fdi o ks ds)/\Q d (μ1.set n (.dic ks ds))
   | _=>False)
  | _=>False
 | .dget o i,ρ,μ,Q=>wE o ρ μ fun x μ1=>wE i ρ μ1 fun y μ2=>Vbh x y μ2 Q
 | .lrng m a r,ρ,μ,Q=>wE a ρ μ fun d μ1=>match r with
  | false=>wInt d μ1 fun j μ2=>(-(2 ^ 62)<=j/\j<=lim)/\newR m (Zg 0 j.toNat) μ2 Q
  | true=>wRvl m d μ1 Q
noncomputable def wEs:Es->Rho->Mem->(List D->Mem->Prop)->Prop
 | .nil,_,μ,Q=>Q [] μ
 | .cons e es,ρ,μ,Q=>wE e ρ μ fun d μ1=>wEs es ρ μ1 fun ds μ2=>Q (d :: ds) μ2
noncomputable def wO:Es->Rho->Mem->(Option Int->Mem->Prop)->Prop
 | .nil,_,μ,Q=>Q none μ
 | .cons e es,ρ,μ,Q=>wE e ρ μ fun d μ1=>match es with | .nil=>wInt d μ1 fun i μ2=>Q (some i) μ2 | _=>False
noncomputable def wT:E->Rho->Mem->(Bool->Mem->Prop)->Prop
 | .not a,ρ,μ,Q=>wT a ρ μ fun b μ1=>Q (!b) μ1
 | .and a b,ρ,μ,Q=>wT a ρ μ fun t μ1=>if t=true then wT b ρ μ1 Q else Q false μ1
 | .or a b,ρ,μ,Q=>wT a ρ μ fun t μ1=>if t=true then Q true μ1 else wT b ρ μ1 Q
 | .var i,ρ,μ,Q=>match ρ[i]? with | some (some d)=>wTru d μ Q | _=>False
 | .cst d,_,μ,Q=>wTru d μ Q
 | .cmp op a b,ρ,μ,Q=>wE a ρ μ fun x μ1=>wE b ρ μ1 fun y μ2=>wCmp op x y μ2 fun r μ3=>wBl r μ3 Q
 | .cmpS n a b,ρ,μ,Q=>wE a ρ μ fun x μ1=>wE b ρ μ1 fun y μ2=>wSame n x y μ2 fun r μ3=>wBl r μ3 Q
 | .cmpT n a b,ρ,μ,Q=>wE a ρ μ fun x μ1=>wE b ρ μ1 fun y μ2=>wEqT n x y μ2 fun r μ3=>wBl r μ3 Q
 | .chain p q a b c,ρ,μ,Q=>wE a ρ μ fun x μ1=>wE b ρ μ1 fun y μ2=>wCmp p x y μ2 fun r μ3=>wBl r μ3 fun t μ3 =>
   if t=true then wE c ρ μ3 fun z μ4=>wCmp q y z μ4 fun r μ5=>wBl r μ5 Q else Q false μ3
 | .call _ sp as,ρ,μ,Q=>wEs as ρ μ fun ds μ1=>sp ds μ1 fun d μ2=>wTru d μ2 Q
 | .idx a b,ρ,μ,Q=>wE a ρ μ fun x μ1=>wE b ρ μ1 fun y μ2=>wIdx x y μ2 fun d μ3=>wTru d μ3 Q
 | .blt x as,ρ,μ,Q=>wEs as ρ μ fun ds μ1=>wBlt x ds μ1 fun d μ2=>wTru d μ2 Q
 | .sqm m o as,ρ,μ,Q=>wE o ρ μ fun x μ1=>isSq m μ1 x=true/\wEs as ρ μ1 fun ds μ2=>wSqm m x ds μ2 fun d μ3=>wTru d μ3 Q
 | .isin a t,ρ,μ,Q=>wE a ρ μ fun d μ1=>Ws t d μ1 fun r μ2=>wBl r μ2 Q
 | .isin a _ (some ks),ρ,μ,Q=>wE a ρ μ fun d μ1=>wInK ks d μ1 fun r μ2=>wBl r μ2 Q
 | _,_,_,_=>False
noncomputable def wTs:Es->Rho->Mem->(Bool->Mem->Prop)->Prop
 | .nil,_,μ,Q=>Q true μ
 | .cons e es,ρ,μ,Q=>wT e ρ μ fun b μ1=>match es with | .nil=>Q b μ1 | _=>False
noncomputable def wI:It->Rho->Mem->QI->Prop
 | .seq e,ρ,μ,Q=>wE e ρ μ fun d μ1=>wSeq d μ1 Q
 | .rng as,ρ,μ,Q=>wEs as ρ μ fun ds μ1=>wRng (Yap as) ds μ1 Q
 | .enum a,ρ,μ,Q=>wE a ρ μ fun x μ1=>Xa9 x μ1 Q
end
structure DEnds where
 nx:Rho->Mem->Prop
 rt:QD
 bk:Rho->Mem->Prop:=fun _ _=>False
 ct:Rho->Mem->Prop:=fun _ _=>False
 xc:Rho->QX:=fun _ _ _ _ _=>False
noncomputable def Zak (bnd:D->Rho->(Rho->Prop)->Prop) (bw:DEnds->Rho->Mem->Prop) (g:Mem->Prop) (Z:DEnds):List D->Rho->Mem->Prop
 | [],ρ,μ=>g μ/\Z.nx ρ μ
 | d :: ds,ρ,μ=>g μ/\bnd d ρ fun ρ'=>bw { Z with nx:=Zak bnd bw g Z ds,ct:=Zak bnd bw g Z ds,bk:=Z.nx } ρ' μ
noncomputable def Zab (o i v:D) (μ:Mem) (k:Mem->Prop):Prop :=
 match o,i with
 | .loc n,.int j=>match μ[n]? with
  | some (.lst xs)=>match ixD xs.length j with | some p=>k (μ.set n (.lst (xs.set p v))) | none=>False
  | _=>False
 | _,_=>False
mutual
noncomputable def wS:S->DEnds->Rho->Mem->Prop
 | .set i e,Z,ρ,μ=>wE e ρ μ fun d μ1=>Z.nx (ρ.set i (some d)) μ1
 | .setT is e,Z,ρ,μ=>wE e ρ μ fun d μ1=>Zq is true d ρ fun ρ'=>Z.nx ρ' μ1
 | .dput o i e,Z,ρ,μ=>wE e ρ μ fun v μ1=>wE o ρ μ1 fun x μ2=>wE i ρ μ2 fun y μ3=>Wbh x y v μ3 fun μ4=>Z.nx ρ μ4
 | .setIx o i e,Z,ρ,μ=>wE e ρ μ fun v μ1=>wE o ρ μ1 fun x μ2=>wE i ρ μ2 fun y μ3=>Zab x y v μ3 fun μ4=>Z.nx ρ μ4
 | .aug i op e,Z,ρ,μ=>match ρ[i]? with
  | some (some (.int p))=>wE e ρ μ fun y μ1=>wInt y μ1 fun q μ2=>match op with
   | .Add=>Z.nx (ρ.set i (some (.int (p + q)))) μ2
   | .Sub=>Z.nx (ρ.set i (some (.int (p - q)))) μ2
   | _=>False
  | _=>False
 | .exp e,Z,ρ,μ=>wE e ρ μ fun _ μ1=>Z.nx ρ μ1
 | .ret e,Z,ρ,μ=>wE e ρ μ Z.rt
 | .ite c a b,Z,ρ,μ=>wT c ρ μ fun t μ1=>if t=true then wSs a Z ρ μ1 else wSs b Z ρ μ1
 | .for_ tg tt it b,Z,ρ,μ=>wI it ρ μ fun ds g μ1=>Zak (fun d r k=>Zq tg tt d r k) (fun Z' r m=>wSs b Z' r m) g Z ds ρ μ1
 | .whl c b,Z,ρ,μ=>∃ W:Nat->Rho->Mem->Prop,(∃ m,W m ρ μ)/\∀ m ρ μ,W m ρ μ->wT c ρ μ fun t μ1 =>
   if t=true then wSs b { Z with nx:=fun ρ' μ'=>∃ m',m' < m/\W m' ρ' μ',ct:=fun ρ' μ'=>∃ m',m' < m/\W m' ρ' μ',bk:=Z.nx } ρ μ1 else Z.nx ρ μ1
 | .nev,_,_,_=>False
noncomputable def wSs:Ss->DEnds->Rho->Mem->Prop
 | .nil,Z,ρ,μ=>Z.nx ρ μ
 | .cons s r,Z,ρ,μ=>wS s { Z with nx:=fun ρ' μ'=>wSs r Z ρ' μ' } ρ μ
end
end DW
end
section
namespace DW
open PySem
noncomputable def Wc (N:List Str) (ds:List D):Rho:=ds.map some ++ List.replicate (N.length - ds.length) none
noncomputable def topZ (Q:QD):DEnds:=⟨fun _ μ=>Q .non μ,Q,fun _ _=>False,fun _ _=>False,fun _ _ _ _ _=>False⟩
noncomputable def Keeps (N:List Str) (i:Ss) (sp:DSp):Prop:=∀ ds μ Q,sp ds μ Q->wSs i (topZ Q) (Wc N ds) μ
noncomputable def calmSp (sp:DSpX):DSp:=fun ds μ Q=>sp ds μ Q fun _ _ _ _=>False
def spLawT:DSp:=fun ds μ Q=>∃ ns:List Int,ds=[.ro (ns.map D.int)]/\ns.length<=63/\μ[0]? = some .tbl/\∀ μ',Q (.bl true) μ'
theorem Vi {bnd:D->Rho->(Rho->Prop)->Prop} {bw:DEnds->Rho->Mem->Prop} {g:Mem->Prop} {Z:DEnds} (Inv:List D->Rho->Mem->Prop)
  (hs:∀ d ds ρ μ N,(∀ ρ μ,Inv ds ρ μ->N ρ μ)->Inv (d :: ds) ρ μ->g μ/\bnd d ρ fun ρ'=>bw { Z with nx:=N,ct:=N,bk:=Z.nx } ρ' μ)
  (he:∀ ρ μ,Inv [] ρ μ->g μ/\Z.nx ρ μ):∀ (ds:List D) (ρ:Rho) (μ:Mem),Inv ds ρ μ->Zak bnd bw g Z ds ρ μ
 | [],ρ,μ,h=>he ρ μ h
 | d :: ds,ρ,μ,h=>hs d ds ρ μ _ (fun ρ μ q=>Vi Inv hs he ds ρ μ q) h
theorem X4 {bnd:D->(Rho->Prop)->Prop} {cw:Rho->Mem->(Bool->Mem->Prop)->Prop} {ew:Rho->Mem->QD->Prop} {g:Mem->Prop} {Q:List D->Mem->Prop} (Inv:List D->List D->Mem->Prop)
  (hs:∀ d ds acc μ (Y:D->Mem->Prop) (N:Mem->Prop),(∀ v μ,Inv ds (acc ++ [v]) μ->Y v μ)->(∀ μ,Inv ds acc μ->N μ)->Inv (d :: ds) acc μ->g μ/\bnd d fun ρ=>cw ρ μ fun b μ1=>if b=true then ew ρ μ1 (fun v μ2=>Y v μ2) else N μ1)
  (he:∀ acc μ,Inv [] acc μ->g μ/\Q acc μ):∀ (ds acc:List D) (μ:Mem),Inv ds acc μ->Wy bnd cw ew g ds acc μ Q
 | [],acc,μ,h=>he acc μ h
 | d :: ds,acc,μ,h=>hs d ds acc μ (fun v μ2=>Wy bnd cw ew g ds (acc ++ [v]) μ2 Q) (fun μ1=>Wy bnd cw ew g ds acc μ1 Q) (fun v μ q=>X4 Inv hs he ds (acc ++ [v]) μ q) (fun μ q=>X4 Inv hs he ds acc μ q) h
theorem Yi {α:Type} {bnd:D->(Rho->Prop)->Prop} {cw:Rho->Mem->(Bool->Mem->Prop)->Prop} {ew:Rho->Mem->QD->Prop} {g:Mem->Prop} {Q:List D->Mem->Prop} {μ:Mem} (c:α->D) (p:α->Bool) (f:α->D) (hg:g μ) :
  ∀ (l:List α) (acc:List D),(∀ x∈l,∀ (Y:D->Mem->Prop) (N:Mem->Prop),(if p x=true then Y (f x) μ else N μ)->bnd (c x) fun ρ=>cw ρ μ fun b μ1=>if b=true then ew ρ μ1 (fun v μ2=>Y v μ2) else N μ1) ->
   Q (acc ++ (l.filter p).map f) μ->Wy bnd cw ew g (l.map c) acc μ Q
 | [],acc,_,h=>⟨hg,by simpa using h⟩
 | d :: ds,acc,hs,h=>by
  refine ⟨hg,hs d (by simp) (fun v μ2=>Wy bnd cw ew g (ds.map c) (acc ++ [v]) μ2 Q) (fun μ1=>Wy bnd cw ew g (ds.map c) acc μ1 Q) ?_⟩
  by_cases q:p d=true
  ·rw [if_pos q]
   refine Yi c p f hg ds _ (fun e he=>hs e (by simp [he])) ?_
   rw [List.filter_cons_of_pos q] at h
   simpa using h
  ·rw [if_neg q]
   refine Yi c p f hg ds _ (fun e he=>hs e (by simp [he])) ?_
   rw [List.filter_cons_of_neg q] at h
   exact h
theorem Wk {α:Type} {bnd:D->(Rho->Prop)->Prop} {cw:Rho->Mem->(Bool->Mem->Prop)->Prop} {ew:Rho->Mem->QD->Prop} {g:Mem->Prop} {Q:List D->Mem->Prop} {μ:Mem} (c:α->D) (f:α->D) (hg:g μ)
  (l:List α) (acc:List D) (hs:∀ x∈l,∀ (Y:D->Mem->Prop) (N:Mem->Prop),Y (f x) μ->bnd (c x) fun ρ=>cw ρ μ fun b μ1=>if b=true then ew ρ μ1 (fun v μ2=>Y v μ2) else N μ1)
  (h:Q (acc ++ l.map f) μ):Wy bnd cw ew g (l.map c) acc μ Q :=
 Yi c (fun _=>true) f hg l acc (fun x hx Y N q=>hs x hx Y N (by simpa using q)) (by rw [List.filter_eq_self.mpr (by simp)]; exact h)
theorem Wo {α:Type} (g:α->Int):∀ l:List α,We (l.map fun x=>D.int (g x))=some (l.map g)
 | []=>rfl
 | x :: l=>by simp [We,Wo g l]
theorem Vo (l:List Int):We (l.map D.int)=some l:=by
 have:=Wo (fun i:Int=>i) l
 simpa using this
theorem Zbt {n:Nat} {i:Int} (h0:0<=i) (h:i < n):ixD n i=some i.toNat:=by simp [ixD,h0,h]
theorem Zbb {lo:Int} {n:Nat} {d:D} (h:d∈Zg lo n):∃ i:Int,d = .int i/\lo<=i/\i < lo + n:=by
 simp only [Zg,List.mem_map,List.mem_range] at h
 obtain ⟨j,hj,rfl⟩:=h
 exact ⟨_,rfl,by omega,by omega⟩
end DW
end
section
namespace DW
end DW
end
section
namespace DW
open PySem PySem.Spec PyProof.Rows L2
noncomputable def keyOf:DKey->Key
 | .inl i=>.inl i
 | .inr x=>.inr ⟨x.toArray⟩
noncomputable def KL (K:PySem.W.Frag) (a:Addr) (xs:List V):Prop :=
 ∃ (o:Obj) (its:Array Value) (n:Nat),K.lookup a=some o/\o.cls = .type "list"/\o.dict=none/\o.data = .seq its n/\its.size<=sizeLine/\Vals xs its.toList
section
variable (K:PySem.W.Frag) (H:Hp) (θ:List Addr) (L:Addr->Prop)
mutual
noncomputable def Rep:D->V->Prop
 | .non,v=>v = .non
 | .bl b,v=>v = .bl b
 | .int i,v=>v = .int i
 | .str x,v=>v = .str ⟨x.toArray⟩/\x.length<=sizeLine
 | .tup ds,v=>∃ a xs,v = .ref a/\H a=some (.tup xs)/\¬ L a/\Reps ds xs
 | .lst ds,v=>∃ a xs,v = .ref a/\H a=some (.lst xs)/\¬ L a/\Reps ds xs
 | .ro ds,v=>∃ a xs,v = .ref a/\((∃ o,H a=some (.frz o (.lst xs))/\¬ L a)∨KL K a xs)/\Reps ds xs
 | .loc n,v=>∃ a,v = .ref a/\θ[n]? = some a
 | .dic ks ds,v=>∃ a kvs,v = .ref a/\H a=some (.dK kvs)/\¬ L a/\kvs.map (·.1)=ks.map keyOf/\Reps ds (kvs.map (·.2))
 | .fdc ks ds,v=>∃ a o kvs,v = .ref a/\H a=some (.frz o (.dK kvs))/\¬ L a/\kvs.map (·.1)=ks.map keyOf/\Reps ds (kvs.map (·.2))
noncomputable def Reps:List D->List V->Prop
 | [],vs=>vs=[]
 | d :: ds,vs=>∃ v r,vs=v :: r/\Rep d v/\Reps ds r
end
end
section
variable {K:PySem.W.Frag} {H H':Hp} {θ θ':List Addr} {L L':Addr->Prop}
mutual
theorem Rep.mono (hp:∀ (n:Nat) (a:Addr),θ[n]? = some a->θ'[n]? = some a) (hk:∀ a o,H a=some o->¬ L a->H' a=some o/\¬ L' a) :
  ∀ (d:D) (v:V),Rep K H θ L d v->Rep K H' θ' L' d v
 | .non,v,h=>by unfold Rep at *; exact h
 | .bl b,v,h=>by unfold Rep at *; exact h
 | .int i,v,h=>by unfold Rep at *; exact h
 | .str x,v,h=>by unfold Rep at *; exact h
 | .tup ds,v,h=>by
  unfold Rep at *
  obtain ⟨a,xs,e,h1,h2,h3⟩:=h
  exact ⟨a,xs,e,(hk a _ h1 h2).1,(hk a _ h1 h2).2,Reps.mono hp hk ds xs h3⟩
 | .lst ds,v,h=>by
  unfold Rep at *
  obtain ⟨a,xs,e,h1,h2,h3⟩:=h
  exact ⟨a,xs,e,(hk a _ h1 h2).1,(hk a _ h1 h2).2,Reps.mono hp hk ds xs h3⟩
 | .ro ds,v,h=>by
  unfold Rep at *
  obtain ⟨a,xs,e,h1,h3⟩:=h
  refine ⟨a,xs,e,?_,Reps.mono hp hk ds xs h3⟩
  rcases h1 with ⟨o,h1,h2⟩ | h1
  ·exact .inl ⟨o,(hk a _ h1 h2).1,(hk a _ h1 h2).2⟩
  ·exact .inr h1
 | .loc n,v,h=>by
  unfold Rep at *
  obtain ⟨a,e,h1⟩:=h
  exact ⟨a,e,hp n a h1⟩
 | .dic ks ds,v,h=>by
  unfold Rep at *
  obtain ⟨a,kvs,e,h1,h2,h3,h4⟩:=h
  exact ⟨a,kvs,e,(hk a _ h1 h2).1,(hk a _ h1 h2).2,h3,Reps.mono hp hk ds _ h4⟩
 | .fdc ks ds,v,h=>by
  unfold Rep at *
  obtain ⟨a,o,kvs,e,h1,h2,h3,h4⟩:=h
  exact ⟨a,o,kvs,e,(hk a _ h1 h2).1,(hk a _ h1 h2).2,h3,Reps.mono hp hk ds _ h4⟩
theorem Reps.mono (hp:∀ (n:Nat) (a:Addr),θ[n]? = some a->θ'[n]? = some a) (hk:∀ a o,H a=some o->¬ L a->H' a=some o/\¬ L' a) :
  ∀ (ds:List D) (vs:List V),Reps K H θ L ds vs->Reps K H' θ' L' ds vs
 | [],vs,h=>by unfold Reps at *; exact h
 | d :: ds,vs,h=>by
  unfold Reps at *
  obtain ⟨v,r,e,h1,h2⟩:=h
  exact ⟨v,r,e,Rep.mono hp hk d v h1,Reps.mono hp hk ds r h2⟩
end
theorem Reps.nil:Reps K H θ L [] []:=by unfold Reps; rfl
theorem Reps.cons {d:D} {ds:List D} {v:V} {vs:List V} (h:Rep K H θ L d v) (r:Reps K H θ L ds vs):Reps K H θ L (d :: ds) (v :: vs):=by
 unfold Reps; exact ⟨v,vs,rfl,h,r⟩
theorem Reps.nil_inv {vs:List V} (h:Reps K H θ L [] vs):vs=[]:=by unfold Reps at h; exact h
theorem Reps.cons_inv {d:D} {ds:List D} {vs:List V} (h:Reps K H θ L (d :: ds) vs):∃ v r,vs=v :: r/\Rep K H θ L d v/\Reps K H θ L ds r:=by
 unfold Reps at h; exact h
theorem Reps.length:∀ {ds:List D} {vs:List V},Reps K H θ L ds vs->ds.length=vs.length
 | [],vs,h=>by rw [h.nil_inv]; rfl
 | d :: ds,vs,h=>by
  obtain ⟨v,r,rfl,_,h2⟩:=h.cons_inv
  simp [h2.length]
theorem Reps.get:∀ {ds:List D} {vs:List V} {i:Nat} {d:D},Reps K H θ L ds vs->ds[i]? = some d->∃ v,vs[i]? = some v/\Rep K H θ L d v
 | [],_,_,_,_,e=>by simp at e
 | d :: ds,vs,i,d',h,e=>by
  obtain ⟨v,r,rfl,h1,h2⟩:=h.cons_inv
  cases i with
  | zero=>simp at e; subst e; exact ⟨v,rfl,h1⟩
  | succ i =>
   obtain ⟨w,e1,e2⟩:=Reps.get (i:=i) h2 (by simpa using e)
   exact ⟨w,by simpa using e1,e2⟩
theorem Reps.append:∀ {ds es:List D} {vs ws:List V},Reps K H θ L ds vs->Reps K H θ L es ws->Reps K H θ L (ds ++ es) (vs ++ ws)
 | [],_,_,_,h,k=>by rw [h.nil_inv]; exact k
 | d :: ds,_,_,_,h,k=>by
  obtain ⟨v,r,rfl,h1,h2⟩:=h.cons_inv
  exact Reps.cons h1 (h2.append k)
theorem Reps.take:∀ {ds:List D} {vs:List V} (n:Nat),Reps K H θ L ds vs->Reps K H θ L (ds.take n) (vs.take n)
 | _,_,0,_=>by simpa using Reps.nil
 | [],_,n + 1,h=>by rw [h.nil_inv]; simpa using Reps.nil
 | d :: ds,_,n + 1,h=>by
  obtain ⟨v,r,rfl,h1,h2⟩:=h.cons_inv
  exact Reps.cons h1 (h2.take n)
theorem Reps.drop:∀ {ds:List D} {vs:List V} (n:Nat),Reps K H θ L ds vs->Reps K H θ L (ds.drop n) (vs.drop n)
 | _,_,0,h=>h
 | [],_,n + 1,h=>by rw [h.nil_inv]; simpa using Reps.nil
 | d :: ds,_,n + 1,h=>by
  obtain ⟨v,r,rfl,h1,h2⟩:=h.cons_inv
  exact h2.drop n
theorem Reps.set {d':D} {v':V} (hd:Rep K H θ L d' v'):∀ {ds:List D} {vs:List V} (n:Nat),Reps K H θ L ds vs->Reps K H θ L (ds.set n d') (vs.set n v')
 | [],_,n,h=>by rw [h.nil_inv]; simpa using Reps.nil
 | d :: ds,_,0,h=>by
  obtain ⟨v,r,rfl,h1,h2⟩:=h.cons_inv
  exact Reps.cons hd h2
 | d :: ds,_,n + 1,h=>by
  obtain ⟨v,r,rfl,h1,h2⟩:=h.cons_inv
  exact Reps.cons h1 (h2.set hd n)
theorem Reps.one {d:D} {v:V} (h:Rep K H θ L d v):Reps K H θ L [d] [v]:=Reps.cons h Reps.nil
theorem Reps.reverse:∀ {ds:List D} {vs:List V},Reps K H θ L ds vs->Reps K H θ L ds.reverse vs.reverse
 | [],_,h=>by rw [h.nil_inv]; simpa using Reps.nil
 | d :: ds,_,h=>by
  obtain ⟨v,r,rfl,h1,h2⟩:=h.cons_inv
  rw [List.reverse_cons,List.reverse_cons]
  exact h2.reverse.append (Reps.one h1)
end
noncomputable def Live (θ:List Addr) (μ:Mem) (a:Addr):Prop:=∃ (n:Nat) (c:Cell),θ[n]? = some a/\μ[n]? = some c/\c≠.gone
noncomputable abbrev Rp (K:PySem.W.Frag) (H:Hp) (θ:List Addr) (μ:Mem):D->V->Prop:=Rep K H θ (Live θ μ)
noncomputable abbrev Rps (K:PySem.W.Frag) (H:Hp) (θ:List Addr) (μ:Mem):List D->List V->Prop:=Reps K H θ (Live θ μ)
noncomputable def ExcAt (x C:Addr) (h:Heap):Prop:=∃ o,h.get? x=some o/\o.cls = .ref C
noncomputable def DcO (a:Addr) (fs:List (Str×V)):HO:=.ext fun h=>∃ mA,h.Ns1 a mA/\(∀ f,RelO (fs.lookup f) (mA f))/\PySem.Within mA (fs.map (·.1))
noncomputable def ErrD (K:PySem.W.Frag) (H:Hp) (θ:List Addr) (μ:Mem) (ks:List String) (ds:List D) (dx:Option Addr):Prop :=
 (ks=[]/\dx=none)∨(ks≠[]/\∃ x fs,dx=some x/\H x=some (DcO x fs)/\¬ Live θ μ x/\fs.map (·.1)=ks.map (fun k=>Str.ofString k)/\Rps K H θ μ ds (fs.map (·.2)))
noncomputable def Wh:Str:="_law_drawn"
noncomputable def lamQ:Str:="_law_drawn" ++ ".<locals>." ++ "<lambda>"
noncomputable def CellOk (K:PySem.W.Frag) (H:Hp) (θ:List Addr) (μ:Mem) (a:Addr):Cell->Prop
 | .lst ds=>∃ xs,H a=some (.lst xs)/\Rps K H θ μ ds xs
 | .ins c fs=>∃ C dx fs',PySem.W.nsIn K mainGlobals (Str.ofString c)=some (some (.ref C))/\H a=some (.ins C dx fs')/\fs'.map (·.1)=fs.map (fun p=>Str.ofString p.1)/\Rps K H θ μ (fs.map (·.2)) (fs'.map (·.2))
 | .dic ks ds=>∃ kvs,H a=some (.dK kvs)/\kvs.map (·.1)=ks.map keyOf/\Rps K H θ μ ds (kvs.map (·.2))
 | .dtc ks ds=>∃ kvs,H a=some (.dT kvs)/\kvs.map (·.1)=ks.map (·.map keyOf)/\Rps K H θ μ ds (kvs.map (·.2))
 | .fdt o ks ds=>∃ kvs,H a=some (.frz o (.dT kvs))/\kvs.map (·.1)=ks.map (·.map keyOf)/\Rps K H θ μ ds (kvs.map (·.2))
 | .fdi o ks ds=>∃ kvs,H a=some (.frz o (.dK kvs))/\kvs.map (·.1)=ks.map keyOf/\Rps K H θ μ ds (kvs.map (·.2))
 | .exc c ks ds=>∃ C o u,PySem.W.nsIn K mainGlobals (Str.ofString c)=some (some (.ref C))/\H a=some (.frz o u)/\o.cls = .ref C/\PySem.W.notCls o=true/\ErrD K H θ μ ks ds o.dict
 | .gone=>True
 | .tbl=>∃ (tc:Addr) (t:Tab),PySem.W.tabIn K Wh=some (tc,a)/\H a=some (.tbl t)/\t.q=lamQ
structure WOk (K:PySem.W.Frag) (H:Hp) (θ:List Addr) (μ:Mem):Prop where
 len:θ.length=μ.length
 inj:∀ (m n:Nat) (a:Addr),θ[m]? = some a->θ[n]? = some a->m=n
 bnd:∀ (n:Nat) (a:Addr),θ[n]? = some a->H a≠none
 cell:∀ (n:Nat) (c:Cell) (a:Addr),μ[n]? = some c->θ[n]? = some a->CellOk K H θ μ a c
structure Grow (H:Hp) (θ:List Addr) (μ:Mem) (H':Hp) (θ':List Addr) (μ':Mem):Prop where
 pre:∀ (n:Nat) (a:Addr),θ[n]? = some a->θ'[n]? = some a
 keep:∀ a o,H a=some o->¬ Live θ μ a->H' a=some o/\¬ Live θ' μ' a
section
variable {K:PySem.W.Frag} {H H' H'':Hp} {θ θ' θ'':List Addr} {μ μ' μ'':Mem} {p a:Addr} {n:Nat} {ds:List D} {xs:List V} {d:D} {v:V}
theorem Grow.refl:Grow H θ μ H θ μ:=⟨fun _ _ h=>h,fun _ _ h k=>⟨h,k⟩⟩
theorem Grow.trans (g:Grow H θ μ H' θ' μ') (g':Grow H' θ' μ' H'' θ'' μ''):Grow H θ μ H'' θ'' μ'' :=
 ⟨fun n a h=>g'.pre n a (g.pre n a h),fun a o h k=>let ⟨x,y⟩:=g.keep a o h k; g'.keep a o x y⟩
theorem Grow.rep (g:Grow H θ μ H' θ' μ') (h:Rp K H θ μ d v):Rp K H' θ' μ' d v:=Rep.mono g.pre g.keep d v h
theorem Grow.reps (g:Grow H θ μ H' θ' μ') (h:Rps K H θ μ ds xs):Rps K H' θ' μ' ds xs:=Reps.mono g.pre g.keep ds xs h
theorem WOk.notIn (w:WOk K H θ μ) (hp:H p=none) (n:Nat):θ[n]?≠some p:=fun e=>w.bnd n p e hp
theorem WOk.notLive (w:WOk K H θ μ) (hp:H p=none):¬ Live θ μ p:=fun ⟨n,_,e,_⟩=>w.notIn hp n e
theorem Grow.ext (e:∀ a o,H a=some o->H' a=some o):Grow H θ μ H' θ μ:=⟨fun _ _ h=>h,fun a o h k=>⟨e a o h,k⟩⟩
theorem ErrD.mono {ks:List String} {dx:Option Addr} (kp:Grow H θ μ H' θ' μ') (h:ErrD K H θ μ ks ds dx):ErrD K H' θ' μ' ks ds dx:=by
 rcases h with h | ⟨h0,x,fs,h1,h2,h3,h4,h5⟩
 ·exact .inl h
 ·exact .inr ⟨h0,x,fs,h1,(kp.keep x _ h2 h3).1,(kp.keep x _ h2 h3).2,h4,kp.reps h5⟩
theorem CellOk.mono {c:Cell} (kp:Grow H θ μ H' θ' μ') (e:∀ o,H a=some o->H' a=some o) (h:CellOk K H θ μ a c):CellOk K H' θ' μ' a c:=by
 cases c with
 | lst ds=>obtain ⟨xs,h1,h2⟩:=h; exact ⟨xs,e _ h1,kp.reps h2⟩
 | ins c fs=>obtain ⟨C,dx,fs',h0,h1,h2,h3⟩:=h; exact ⟨C,dx,fs',h0,e _ h1,h2,kp.reps h3⟩
 | dic ks ds=>obtain ⟨kvs,h1,h2,h3⟩:=h; exact ⟨kvs,e _ h1,h2,kp.reps h3⟩
 | dtc ks ds=>obtain ⟨kvs,h1,h2,h3⟩:=h; exact ⟨kvs,e _ h1,h2,kp.reps h3⟩
 | fdt o ks ds=>obtain ⟨kvs,h1,h2,h3⟩:=h; exact ⟨kvs,e _ h1,h2,kp.reps h3⟩
 | fdi o ks ds=>obtain ⟨kvs,h1,h2,h3⟩:=h; exact ⟨kvs,e _ h1,h2,kp.reps h3⟩
 | exc c ks ds=>obtain ⟨C,o,u,h1,h2,h3,h5,h4⟩:=h; exact ⟨C,o,u,h1,e _ h2,h3,h5,h4.mono kp⟩
 | gone=>trivial
 | tbl=>obtain ⟨tc,t,h1,h2,h3⟩:=h; exact ⟨tc,t,h1,e _ h2,h3⟩
theorem WOk.ext (w:WOk K H θ μ) (e:∀ a o,H a=some o->H' a=some o):WOk K H' θ μ where
 len:=w.len
 inj:=w.inj
 bnd:=fun n a h k=>by
  cases q:H a with
  | none=>exact w.bnd n a h q
  | some o=>rw [e a o q] at k; cases k
 cell:=fun n c a h k=>(w.cell n c a h k).mono (Grow.ext e) (e a)
theorem Xl {o:HO} (hp:H p=none):∀ a u,H a=some u->(upd H p o) a=some u:=fun a u h=>by
 rw [Va (Wb h hp)]; exact h
theorem Waw {α:Type} {l:List α} {x y:α} {n:Nat} (h:l[n]? = some y):(l ++ [x])[n]? = some y:=by
 have hl:n < l.length:=(List.getElem?_eq_some_iff.mp h).1
 rw [List.getElem?_append_left hl]; exact h
theorem Xk {α:Type} {l:List α} {x y:α} {n:Nat} (h:(l ++ [x])[n]? = some y):l[n]? = some y∨(n=l.length/\x=y):=by
 by_cases hn:n < l.length
 ·rw [List.getElem?_append_left hn] at h; exact .inl h
 ·rw [List.getElem?_append_right (by omega)] at h
  have:n - l.length=0:=by
   cases e:n - l.length with
   | zero=>rfl
   | succ k=>rw [e] at h; simp at h
  rw [this] at h
  simp at h
  exact .inr ⟨by omega,h⟩
theorem Grow.new {c:Cell} {o:HO} (w:WOk K H θ μ) (hp:H p=none):Grow H θ μ (upd H p o) (θ ++ [p]) (μ ++ [c]) where
 pre:=fun n a h=>Waw h
 keep:=fun a u h k=>by
  refine ⟨Xl hp a u h,?_⟩
  rintro ⟨n,c',e1,e2,e3⟩
  rcases Xk e1 with e1 | ⟨e1,rfl⟩
  ·rcases Xk e2 with e2 | ⟨e2,_⟩
   ·exact k ⟨n,c',e1,e2,e3⟩
   ·have:=(List.getElem?_eq_some_iff.mp e1).1
    have:=w.len
    omega
  ·rw [hp] at h; cases h
theorem WOk.new {c:Cell} {o:HO} (w:WOk K H θ μ) (hp:H p=none) (hc:CellOk K (upd H p o) (θ ++ [p]) (μ ++ [c]) p c):WOk K (upd H p o) (θ ++ [p]) (μ ++ [c]) where
 len:=by simp [w.len]
 inj:=fun m n a h k=>by
  rcases Xk h with h1 | ⟨h1,rfl⟩
  ·rcases Xk k with k1 | ⟨k1,rfl⟩
   ·exact w.inj m n a h1 k1
   ·exact absurd h1 (w.notIn hp m)
  ·rcases Xk k with k1 | ⟨k1,_⟩
   ·exact absurd k1 (w.notIn hp n)
   ·rw [h1,k1]
 bnd:=fun n a h=>by
  rcases Xk h with h | ⟨h,rfl⟩
  ·intro k
   cases q:H a with
   | none=>exact w.bnd n a h q
   | some u=>rw [Xl hp a u q] at k; cases k
  ·rw [Xb]; simp
 cell:=fun n c' a h k=>by
  rcases Xk k with k | ⟨k,rfl⟩
  ·rcases Xk h with h | ⟨h,rfl⟩
   ·exact (w.cell n c' a h k).mono (Grow.new w hp) (Xl hp a)
   ·have:=(List.getElem?_eq_some_iff.mp k).1
    have:=w.len
    omega
  ·rcases Xk h with h | ⟨h,rfl⟩
   ·have:=(List.getElem?_eq_some_iff.mp h).1
    have:=w.len
    omega
   ·exact hc
theorem Wcg {c c':Cell} (hn:μ[n]? = some c) (h1:c≠.gone) (h2:c'≠.gone):Live θ (μ.set n c') a<->Live θ μ a:=by
 constructor
 ·rintro ⟨m,e,k1,k2,k3⟩
  by_cases q:m=n
  ·subst q; exact ⟨m,c,k1,hn,h1⟩
  ·rw [List.getElem?_set_ne (Ne.symm q)] at k2; exact ⟨m,e,k1,k2,k3⟩
 ·rintro ⟨m,e,k1,k2,k3⟩
  by_cases q:m=n
  ·subst q
   refine ⟨m,c',k1,?_,h2⟩
   rw [List.getElem?_set_self (List.getElem?_eq_some_iff.mp hn).1]
  ·exact ⟨m,e,k1,by rw [List.getElem?_set_ne (Ne.symm q)]; exact k2,k3⟩
theorem Grow.write {c c':Cell} {o:HO} (hn:μ[n]? = some c) (ha:θ[n]? = some a) (h1:c≠.gone) (h2:c'≠.gone):Grow H θ μ (upd H a o) θ (μ.set n c') where
 pre:=fun _ _ h=>h
 keep:=fun b u h k=>by
  have:b≠a:=by rintro rfl; exact k ⟨n,c,ha,hn,h1⟩
  exact ⟨by rw [Va this]; exact h,fun z=>k ((Wcg hn h1 h2).mp z)⟩
theorem WOk.write {c c':Cell} {o:HO} (w:WOk K H θ μ) (hn:μ[n]? = some c) (ha:θ[n]? = some a) (h1:c≠.gone) (h2:c'≠.gone) (hc:CellOk K (upd H a o) θ (μ.set n c') a c'):WOk K (upd H a o) θ (μ.set n c') where
 len:=by simp [w.len]
 inj:=w.inj
 bnd:=fun m b h k=>by
  unfold upd at k
  split at k
  ·cases k
  ·exact w.bnd m b h k
 cell:=fun m c1 b h k=>by
  by_cases q:m=n
  ·subst q
   rw [List.getElem?_set_self (List.getElem?_eq_some_iff.mp hn).1] at h
   cases h
   rw [ha] at k; cases k
   exact hc
  ·rw [List.getElem?_set_ne (Ne.symm q)] at h
   have hb:b≠a:=fun z=>q (w.inj m n b k (by rw [z]; exact ha))
   exact (w.cell m c1 b h k).mono (Grow.write hn ha h1 h2) fun u e=>by rw [Va hb]; exact e
theorem Grow.frz:Grow H θ μ H θ (μ.set n .gone) where
 pre:=fun _ _ h=>h
 keep:=fun b u h k=>⟨h,fun ⟨m,c,k1,k2,k3⟩=>by
  by_cases q:m=n
  ·subst q
   by_cases hl:m < μ.length
   ·rw [List.getElem?_set_self hl] at k2; cases k2; exact k3 rfl
   ·rw [List.set_eq_of_length_le (by omega)] at k2; exact k ⟨m,c,k1,k2,k3⟩
  ·rw [List.getElem?_set_ne (Ne.symm q)] at k2; exact k ⟨m,c,k1,k2,k3⟩⟩
theorem WOk.frz (w:WOk K H θ μ):WOk K H θ (μ.set n .gone) where
 len:=by simp [w.len]
 inj:=w.inj
 bnd:=w.bnd
 cell:=fun m c1 b h k=>by
  by_cases q:m=n
  ·subst q
   by_cases hl:m < μ.length
   ·rw [List.getElem?_set_self hl] at h; cases h; trivial
   ·rw [List.set_eq_of_length_le (by omega)] at h ⊢; exact w.cell m c1 b h k
  ·rw [List.getElem?_set_ne (Ne.symm q)] at h
   exact (w.cell m c1 b h k).mono Grow.frz fun _ e=>e
theorem Vao (w:WOk K H θ μ) (ha:θ[n]? = some a):¬ Live θ (μ.set n .gone) a:=by
 rintro ⟨m,c,k1,k2,k3⟩
 have:=w.inj m n a k1 ha
 subst this
 by_cases hl:m < μ.length
 ·rw [List.getElem?_set_self hl] at k2; cases k2; exact k3 rfl
 ·rw [List.getElem?_eq_none (by simp; omega)] at k2; cases k2
theorem wok_tbl {P:Addr} {t':Tab} (w:WOk K H θ μ) (hP:θ[n]? = some P) (hn:μ[n]? = some .tbl) (e:∀ b o,b≠P->H b=some o->H' b=some o) (h1:H' P=some (.tbl t')) (h2:t'.q=lamQ):WOk K H' θ μ/\Grow H θ μ H' θ μ:=by
 have g:Grow H θ μ H' θ μ:=⟨fun _ _ h=>h,fun a o h k=>⟨e a o (fun z=>k ⟨n,.tbl,z ▸ hP,hn,by simp⟩) h,k⟩⟩
 refine ⟨⟨w.len,w.inj,fun m a h z=>?_,fun m c a h k=>?_⟩,g⟩
 ·by_cases q:a=P
  ·rw [q,h1] at z; cases z
  ·cases q2:H a with
   | none=>exact w.bnd m a h q2
   | some o=>rw [e a o q q2] at z; cases z
 ·by_cases q:a=P
  ·subst q
   obtain rfl:=w.inj m n a k hP
   rw [hn] at h
   cases h
   obtain ⟨tc,t,c1,_,_⟩:=(show CellOk K H θ μ a .tbl from w.cell m _ a hn hP)
   exact ⟨tc,t',c1,h1,h2⟩
  ·exact (w.cell m c a h k).mono g fun o z=>e a o q z
theorem WOk.list (w:WOk K H θ μ) (hn:μ[n]? = some (.lst ds)) (ha:θ[n]? = some a):∃ xs,H a=some (.lst xs)/\Rps K H θ μ ds xs:=w.cell n _ a hn ha
theorem WOk.addr (w:WOk K H θ μ) {c:Cell} (hn:μ[n]? = some c):∃ a,θ[n]? = some a:=by
 have h1:=(List.getElem?_eq_some_iff.mp hn).1
 rw [<- w.len] at h1
 exact ⟨_,List.getElem?_eq_getElem h1⟩
end
structure Sim (K:PySem.W.Frag) (σ:L2.St) (H:Hp) (ρ:Rho) (θ:List Addr) (μ:Mem):Prop where
 wok:WOk K H θ μ
 len:ρ.length=σ.length
 val:∀ (i:Nat) (d:D),ρ[i]? = some (some d)->∃ v,σ[i]? = some (some v)/\Rp K H θ μ d v
noncomputable def Fin (K:PySem.W.Frag) (H:Hp) (θ:List Addr) (μ:Mem) (Qd:QD) (Q:VK):Prop :=
 ∀ (d:D) (v:V) (H':Hp) (θ':List Addr) (μ':Mem),WOk K H' θ' μ'->Grow H θ μ H' θ' μ'->Rp K H' θ' μ' d v->Qd d μ'->Q v H'
noncomputable abbrev WE:=Rho->Mem->QD->Prop
noncomputable def LE (K:PySem.W.Frag) (w:WE):TE:=fun σ H Q=>∃ ρ θ μ Qd,Sim K σ H ρ θ μ/\w ρ μ Qd/\Fin K H θ μ Qd Q
noncomputable abbrev WT:=Rho->Mem->(Bool->Mem->Prop)->Prop
noncomputable def LT (K:PySem.W.Frag) (w:WT):TT:=fun σ H Q=>∃ ρ θ μ Qd,Sim K σ H ρ θ μ/\w ρ μ Qd /\
 ∀ (b:Bool) (H':Hp) (θ':List Addr) (μ':Mem),WOk K H' θ' μ'->Grow H θ μ H' θ' μ'->Qd b μ'->Q b H'
noncomputable abbrev WA:=Rho->Mem->(List D->Mem->Prop)->Prop
noncomputable def LA (K:PySem.W.Frag) (w:WA):TA:=fun σ H Q=>∃ ρ θ μ Qd,Sim K σ H ρ θ μ/\w ρ μ Qd /\
 ∀ (ds:List D) (vs:List V) (H':Hp) (θ':List Addr) (μ':Mem),WOk K H' θ' μ'->Grow H θ μ H' θ' μ'->Rps K H' θ' μ' ds vs->Qd ds μ'->Q vs H'
noncomputable abbrev WS:=DEnds->Rho->Mem->Prop
noncomputable def XLand (K:PySem.W.Frag) (E:XK) (H:Hp) (θ:List Addr) (μ:Mem) (c:String) (ks:List String) (ds:List D):Prop:=∃ C,PySem.W.nsIn K mainGlobals (Str.ofString c)=some (some (.ref C))/\∀ dx,ErrD K H θ μ ks ds dx->E (.ref C) dx H
structure FinS (K:PySem.W.Frag) (EX:L2.St->XK) (H:Hp) (θ:List Addr) (μ:Mem) (Z:DEnds) (D:Ends):Prop where
 nx:∀ σ' H' ρ' θ' μ',Sim K σ' H' ρ' θ' μ'->Grow H θ μ H' θ' μ'->Z.nx ρ' μ'->D.nx σ' H'
 rt:Fin K H θ μ Z.rt D.rt
 bk:∀ σ' H' ρ' θ' μ',Sim K σ' H' ρ' θ' μ'->Grow H θ μ H' θ' μ'->Z.bk ρ' μ'->D.bk σ' H'
 ct:∀ σ' H' ρ' θ' μ',Sim K σ' H' ρ' θ' μ'->Grow H θ μ H' θ' μ'->Z.ct ρ' μ'->D.ct σ' H'
 xc:∀ σ' H' ρ' θ' μ' c ks ds,Sim K σ' H' ρ' θ' μ'->Grow H θ μ H' θ' μ'->Z.xc ρ' c ks ds μ'->XLand K (EX σ') H' θ' μ' c ks ds
noncomputable def LS (K:PySem.W.Frag) (EX:L2.St->XK) (w:WS):TS:=fun D σ H=>∃ ρ θ μ Z,Sim K σ H ρ θ μ/\w Z ρ μ/\FinS K EX H θ μ Z D
section
variable {K:PySem.W.Frag} {H H' H'':Hp} {θ θ' θ'':List Addr} {μ μ' μ'':Mem} {σ:L2.St} {ρ:Rho} {i:Nat} {d:D} {v:V} {Qd:QD} {Q:VK}
theorem Sim.grow (s:Sim K σ H ρ θ μ) (w:WOk K H' θ' μ') (g:Grow H θ μ H' θ' μ'):Sim K σ H' ρ θ' μ' :=
 ⟨w,s.len,fun i d h=>let ⟨v,e,r⟩:=s.val i d h; ⟨v,e,g.rep r⟩⟩
theorem Sim.set (s:Sim K σ H ρ θ μ) (r:Rp K H θ μ d v) (i:Nat):Sim K (σ.set i (some v)) H (ρ.set i (some d)) θ μ :=
 ⟨s.wok,by simp [s.len],fun j e h=>by
  by_cases q:j=i
  ·subst q
   by_cases hl:j < ρ.length
   ·rw [List.getElem?_set_self hl] at h
    cases h
    exact ⟨v,by rw [List.getElem?_set_self (by rw [<- s.len]; exact hl)],r⟩
   ·rw [List.getElem?_eq_none (by simp; omega)] at h; cases h
  ·rw [List.getElem?_set_ne (Ne.symm q)] at h ⊢
   exact s.val j e h⟩
theorem Fin.mono (f:Fin K H θ μ Qd Q) (g:Grow H θ μ H' θ' μ'):Fin K H' θ' μ' Qd Q:=fun d v H'' θ'' μ'' w g' r q=>f d v H'' θ'' μ'' w (g.trans g') r q
theorem Fin.at (f:Fin K H θ μ Qd Q) (w:WOk K H θ μ) (r:Rp K H θ μ d v) (q:Qd d μ):Q v H:=f d v H θ μ w Grow.refl r q
theorem FinS.mono {EX:L2.St->XK} {Z:DEnds} {D:Ends} (f:FinS K EX H θ μ Z D) (g:Grow H θ μ H' θ' μ'):FinS K EX H' θ' μ' Z D :=
 ⟨fun σ' H' ρ' θ' μ' s g' z=>f.nx σ' H' ρ' θ' μ' s (g.trans g') z,f.rt.mono g,fun σ' H' ρ' θ' μ' s g' z=>f.bk σ' H' ρ' θ' μ' s (g.trans g') z,fun σ' H' ρ' θ' μ' s g' z=>f.ct σ' H' ρ' θ' μ' s (g.trans g') z,fun σ' H' ρ' θ' μ' c ks ds s g' z=>f.xc σ' H' ρ' θ' μ' c ks ds s (g.trans g') z⟩
end
end DW
end
section
namespace DW
open PySem PySem.Spec PyProof.Rows L2
section
variable {X:Cx}
theorem PE.wk {e:Expr} {t t':TE} (h:PE X e t) (m:∀ σ H Q,t' σ H Q->t σ H Q):PE X e t':=fun pins s σ H Q I hw=>h pins s σ H Q I (m σ H Q hw)
theorem PT.wk {e:Expr} {t t':TT} (h:PT X e t) (m:∀ σ H Q,t' σ H Q->t σ H Q):PT X e t':=fun pins s σ H Q I hw=>h pins s σ H Q I (m σ H Q hw)
theorem PW.wk {e:Expr} {t t':TT} (h:PW X e t) (m:∀ σ H Q,t' σ H Q->t σ H Q):PW X e t':=fun wh pins s σ H Q I hw=>h wh pins s σ H Q I (m σ H Q hw)
theorem PA.wk {es:List Expr} {t t':TA} (h:PA X es t) (m:∀ σ H Q,t' σ H Q->t σ H Q):PA X es t':=fun pos pins s σ H Q I hw=>h pos pins s σ H Q I (m σ H Q hw)
theorem PS.wk {st:Stmt} {t t':TS} (h:PS X st t) (m:∀ D σ H,t' D σ H->t D σ H):PS X st t':=fun pins s σ H D I hw=>h pins s σ H D I (m D σ H hw)
theorem PSs.wk {st:List Stmt} {t t':TS} (h:PSs X st t) (m:∀ D σ H,t' D σ H->t D σ H):PSs X st t':=fun pins s σ H D I hw=>h pins s σ H D I (m D σ H hw)
end
theorem V5:lim=sizeLine:=by rw [sizeLine_eq]; rfl
noncomputable def low2 (K:PySem.W.Frag) (w:D->D->Mem->QD->Prop):R2:=fun x y H Q=>∃ d e θ μ Qd,WOk K H θ μ/\Rp K H θ μ d x/\Rp K H θ μ e y/\w d e μ Qd/\Fin K H θ μ Qd Q
noncomputable def lowA (K:PySem.W.Frag) (w:List D->Mem->QD->Prop):List V->Hp->VK->Prop:=fun vs H Q=>∃ ds θ μ Qd,WOk K H θ μ/\Rps K H θ μ ds vs/\w ds μ Qd/\Fin K H θ μ Qd Q
noncomputable def lowM (K:PySem.W.Frag) (w:D->List D->Mem->QD->Prop):V->List V->Hp->VK->Prop:=fun x vs H Q=>∃ d ds θ μ Qd,WOk K H θ μ/\Rp K H θ μ d x/\Rps K H θ μ ds vs/\w d ds μ Qd/\Fin K H θ μ Qd Q
section
variable {K:PySem.W.Frag} {H H':Hp} {θ θ':List Addr} {μ μ':Mem} {σ:L2.St} {ρ:Rho} {Qd:QD} {Q:VK} {ds:List D} {xs:List V} {p a:Addr}
theorem Xa3:Rp K H θ μ .non .non:=by unfold Rep; rfl
theorem Zi {b:Bool}:Rp K H θ μ (.bl b) (.bl b):=by unfold Rep; rfl
theorem Vd {i:Int}:Rp K H θ μ (.int i) (.int i):=by unfold Rep; rfl
theorem Vab {x:List Nat} (h:x.length<=sizeLine):Rp K H θ μ (.str x) (.str ⟨x.toArray⟩):=by unfold Rep; exact ⟨rfl,h⟩
theorem Xj {v:V} (h:Rp K H θ μ .non v):v = .non:=by unfold Rep at h; exact h
theorem Vf {b:Bool} {v:V} (h:Rp K H θ μ (.bl b) v):v = .bl b:=by unfold Rep at h; exact h
theorem Yb {i:Int} {v:V} (h:Rp K H θ μ (.int i) v):v = .int i:=by unfold Rep at h; exact h
theorem Zd {x:List Nat} {v:V} (h:Rp K H θ μ (.str x) v):v = .str ⟨x.toArray⟩/\x.length<=sizeLine:=by unfold Rep at h; exact h
theorem Ze {v:V} (h:Rp K H θ μ (.tup ds) v):∃ a xs,v = .ref a/\H a=some (.tup xs)/\¬ Live θ μ a/\Rps K H θ μ ds xs:=by unfold Rep at h; exact h
theorem Yg {v:V} (h:Rp K H θ μ (.lst ds) v):∃ a xs,v = .ref a/\H a=some (.lst xs)/\¬ Live θ μ a/\Rps K H θ μ ds xs:=by unfold Rep at h; exact h
theorem Za5 {v:V} (h:Rp K H θ μ (.ro ds) v):∃ a xs,v = .ref a/\((∃ o,H a=some (.frz o (.lst xs))/\¬ Live θ μ a)∨KL K a xs)/\Rps K H θ μ ds xs:=by unfold Rep at h; exact h
theorem Xc {n:Nat} {v:V} (h:Rp K H θ μ (.loc n) v):∃ a,v = .ref a/\θ[n]? = some a:=by unfold Rep at h; exact h
theorem V6 {ks:List DKey} {v:V} (h:Rp K H θ μ (.dic ks ds) v):∃ a kvs,v = .ref a/\H a=some (.dK kvs)/\¬ Live θ μ a/\kvs.map (·.1)=ks.map keyOf/\Rps K H θ μ ds (kvs.map (·.2)):=by unfold Rep at h; exact h
theorem inv_fdc {ks:List DKey} {v:V} (h:Rp K H θ μ (.fdc ks ds) v):∃ a o kvs,v = .ref a/\H a=some (.frz o (.dK kvs))/\¬ Live θ μ a/\kvs.map (·.1)=ks.map keyOf/\Rps K H θ μ ds (kvs.map (·.2)):=by unfold Rep at h; exact h
theorem Wa8 (h:(∃ o,H a=some (.frz o (.lst xs))/\¬ Live θ μ a)∨KL K a xs):SqL K H a xs:=by
 rcases h with ⟨o,h,_⟩ | h
 ·exact .inl (.inr ⟨o,h⟩)
 ·exact .inr h
theorem Zk {d:D} {v:V} (wk:WOk K H θ μ) (r:Rp K H θ μ d v) (h:Zb μ d=some ds):∃ a xs,v = .ref a/\(SqL K H a xs∨SqT K H a xs)/\Rps K H θ μ ds xs:=by
 cases d with
 | lst es=>simp only [Zb,Option.some.injEq] at h; subst h; obtain ⟨a,xs,e,h1,_,h3⟩:=Yg r; exact ⟨a,xs,e,.inl (.of h1),h3⟩
 | tup es=>simp only [Zb,Option.some.injEq] at h; subst h; obtain ⟨a,xs,e,h1,_,h3⟩:=Ze r; exact ⟨a,xs,e,.inr (.of h1),h3⟩
 | ro es=>simp only [Zb,Option.some.injEq] at h; subst h; obtain ⟨a,xs,e,h1,h3⟩:=Za5 r; exact ⟨a,xs,e,.inl (Wa8 h1),h3⟩
 | loc n =>
  obtain ⟨a,e,h1⟩:=Xc r
  simp only [Zb] at h
  split at h
  ·rename_i es hn
   simp only [Option.some.injEq] at h; subst h
   obtain ⟨xs,h2,h3⟩:=wk.list hn h1
   exact ⟨a,xs,e,.inl (.of h2),h3⟩
  ·cases h
 | _=>simp [Zb] at h
theorem X5 (wk:WOk K H θ μ) (f:Fin K H θ μ Qd Q) (r:Rps K H θ μ ds xs) (h:Qd (.tup ds) μ) (hp:H p=none):Q (.ref p) (upd H p (.tup xs)):=by
 refine f (.tup ds) (.ref p) _ θ μ (wk.ext (Xl hp)) (Grow.ext (Xl hp)) ?_ h
 unfold Rep
 exact ⟨p,xs,rfl,Xb,wk.notLive hp,(Grow.ext (Xl hp)).reps r⟩
theorem Wau (wk:WOk K H θ μ) (f:Fin K H θ μ Qd Q) (r:Rps K H θ μ ds xs) (h:Qd (.lst ds) μ) (hp:H p=none):Q (.ref p) (upd H p (.lst xs)):=by
 refine f (.lst ds) (.ref p) _ θ μ (wk.ext (Xl hp)) (Grow.ext (Xl hp)) ?_ h
 unfold Rep
 exact ⟨p,xs,rfl,Xb,wk.notLive hp,(Grow.ext (Xl hp)).reps r⟩
theorem Vce (wk:WOk K H θ μ) (f:Fin K H θ μ Qd Q) (r:Rps K H θ μ ds xs) (h:Qd (.loc μ.length) (μ ++ [.lst ds])) (hp:H p=none):Q (.ref p) (upd H p (.lst xs)):=by
 have g:Grow H θ μ (upd H p (.lst xs)) (θ ++ [p]) (μ ++ [.lst ds]):=Grow.new wk hp
 refine f (.loc μ.length) (.ref p) _ (θ ++ [p]) (μ ++ [.lst ds]) (wk.new (c:=.lst ds) hp (show CellOk K _ _ _ p (.lst ds) from ⟨xs,Xb,g.reps r⟩)) g ?_ h
 unfold Rep
 exact ⟨p,rfl,by rw [<- wk.len]; simp⟩
theorem W5 {m:Bool} (wk:WOk K H θ μ) (f:Fin K H θ μ Qd Q) (r:Rps K H θ μ ds xs) (h:newL m ds μ Qd) (hp:H p=none):Q (.ref p) (upd H p (.lst xs)):=by
 cases m with
 | true=>exact Vce wk f r h hp
 | false=>exact Wau wk f r h hp
end
section
variable {K:PySem.W.Frag} {σ:L2.St} {H:Hp} {Q:VK} {wa wb wc:WE}
theorem Z0 {w:D->D->Mem->QD->Prop} (h:LE K (fun ρ μ Q=>wa ρ μ fun x μ1=>wb ρ μ1 fun y μ2=>w x y μ2 Q) σ H Q):tOp (low2 K w) (LE K wa) (LE K wb) σ H Q:=by
 obtain ⟨ρ,θ,μ,Qd,s,h,f⟩:=h
 refine ⟨ρ,θ,μ,_,s,h,fun x v H1 θ1 μ1 w1 g1 r1 h1=>⟨ρ,θ1,μ1,_,s.grow w1 g1,h1,fun y v2 H2 θ2 μ2 w2 g2 r2 h2=>?_⟩⟩
 exact ⟨x,y,θ2,μ2,Qd,w2,g2.rep r1,r2,h2,f.mono (g1.trans g2)⟩
theorem le_args {w:List D->Mem->QD->Prop} {ws:WA} (h:LE K (fun ρ μ Q=>ws ρ μ fun ds μ1=>w ds μ1 Q) σ H Q):LA K ws σ H (fun vs H1=>lowA K w vs H1 Q):=by
 obtain ⟨ρ,θ,μ,Qd,s,h,f⟩:=h
 exact ⟨ρ,θ,μ,_,s,h,fun ds vs H1 θ1 μ1 w1 g1 r1 h1=>⟨ds,θ1,μ1,Qd,w1,r1,h1,f.mono g1⟩⟩
theorem la_cons {ws:WA} {Q:List V->Hp->Prop} (h:LA K (fun ρ μ Q=>wa ρ μ fun d μ1=>ws ρ μ1 fun ds μ2=>Q (d :: ds) μ2) σ H Q):Z9 (LE K wa) (LA K ws) σ H Q:=by
 obtain ⟨ρ,θ,μ,Qd,s,h,f⟩:=h
 refine ⟨ρ,θ,μ,_,s,h,fun x v H1 θ1 μ1 w1 g1 r1 h1=>⟨ρ,θ1,μ1,_,s.grow w1 g1,h1,fun ds vs H2 θ2 μ2 w2 g2 r2 h2=>?_⟩⟩
 exact f (x :: ds) (v :: vs) H2 θ2 μ2 w2 (g1.trans g2) (.cons (g2.rep r1) r2) h2
end
section
variable {X:Cx}
theorem pa_nilD:PA X [] (LA X.K (fun _ μ Q=>Q [] μ)):=PA.wk Zw fun σ H Q h=>by
 obtain ⟨ρ,θ,μ,Qd,s,h,f⟩:=h
 exact f [] [] H θ μ s.wok Grow.refl Reps.nil h
theorem Vcd {e:Expr} {es:List Expr} {wa:WE} {ws:WA} (h1:PE X e (LE X.K wa)) (h2:PA X es (LA X.K ws)) (hs:starEach (e :: es) X.env=(false,eval e X.env) :: starEach es X.env) :
  PA X (e :: es) (LA X.K (fun ρ μ Q=>wa ρ μ fun d μ1=>ws ρ μ1 fun ds μ2=>Q (d :: ds) μ2)):=PA.wk (Yl h1 h2 hs) fun σ H Q h=>la_cons h
theorem pe_varD {i:Nat} {x:Str} {pos:Pos} (hN:X.N[i]? = some x) (hv:Vis X.env.scope x) (hd:(x == ("__debug__" : Str))=false) (hcd:(x == ("__classdict__" : Str))=false) :
  PE X (.Name x pos) (LE X.K (fun ρ μ Q=>match ρ[i]? with | some (some d)=>Q d μ | _=>False)):=PE.wk (Wa3 hN hv hd hcd) fun σ H Q h=>by
 obtain ⟨ρ,θ,μ,Qd,s,h,f⟩:=h
 split at h
 ·rename_i d e
  obtain ⟨v,e1,r⟩:=s.val i d e
  exact ⟨v,e1,f.at s.wok r h⟩
 ·exact h.elim
theorem Yw {v:V} {d:D} (r:∀ H θ μ,Rp X.K H θ μ d v) {σ:L2.St} {H:Hp} {Q:VK} (h:LE X.K (fun _ μ Q=>Q d μ) σ H Q):tC v σ H Q:=by
 obtain ⟨ρ,θ,μ,Qd,s,h,f⟩:=h
 exact f.at s.wok (r H θ μ) h
theorem Yce:OpR X (binaryOp .FloorDiv) (rI (fun _ j=>Wa1 j) fun i j=>.int (i / j)):=opI fun i j _ _ _ _ _ hc q=>by
 have h1:(0:Int) < j:=hc.1
 have h2:j < 2 ^ 500:=hc.2
 refine floordiv_int (by omega) ?_ (.inl (PyProof.noPylong_of_log2 ?_))
 ·rw [Int.fdiv_eq_ediv_of_nonneg i (by omega)]; exact q
 ·have h3:j.natAbs < 2 ^ 500:=by omega
  have h4:j.natAbs≠0:=by omega
  have:=(Nat.log2_lt h4).mpr h3
  omega
theorem Vb6 {prog:Program} {w:World} {A:Around} {E:Value->Shared->Prop} {s:Shared} {t b:Addr} {vs ws:List Value} {Q:Value->Shared->Prop} (ht:IsTup s.heap t vs.toArray) (hb:IsTup s.heap b ws.toArray) (hv:vs=[]) (h:Q (.ref b) s) :
  wpAny (model prog w) A (binaryOp .Add (.ref t) (.ref b)) Q E s:=by
 obtain ⟨⟨c1,d1,a1,s1⟩,g1,e1,n1,f1⟩:=id ht
 obtain ⟨⟨c2,d2,a2,s2⟩,g2,e2,n2,f2⟩:=id hb
 cases e1
 cases f1
 cases e2
 cases f2
 refine concat_meets ⟨_,g1,rfl⟩ ⟨_,g2,rfl⟩ noFill_tuple_add seq_tuple_add
  PySem.F.slot_tuple_add PySem.F.entry_tuple_add (PySem.F.args_tuple_add_2 _ _) (tuple_addW0 t b vs.toArray ws.toArray n1 n2 d1 d2 s1 s2 ?_) ⟨g1,g2,h⟩
 rw [hv]; rfl
theorem bin_ok (op:Operator):OpR X (binaryOp op) (low2 X.K (wBin op)):=by
 intro pins s σ H x y v u Q I rx ry h
 obtain ⟨d,e,θ,μ,Qd,wk,rd,re,hw,f⟩:=h
 unfold wBin at hw
 split at hw
 ·rename_i i j
  have ex:=Yb rd
  have ey:=Yb re
  split at hw
  ·exact op_add pins s σ H x y v u Q I rx ry ⟨i,j,ex,ey,f.at wk Vd hw⟩
  ·exact op_sub pins s σ H x y v u Q I rx ry ⟨i,j,ex,ey,f.at wk Vd hw⟩
  ·exact op_mul pins s σ H x y v u Q I rx ry ⟨i,j,ex,ey,hw.1,f.at wk Vd hw.2⟩
  ·exact Yce pins s σ H x y v u Q I rx ry ⟨i,j,ex,ey,hw.1,f.at wk Vd hw.2⟩
  ·exact op_mod pins s σ H x y v u Q I rx ry ⟨i,j,ex,ey,hw.1,f.at wk Vd hw.2⟩
  ·exact op_pow pins s σ H x y v u Q I rx ry ⟨i,j,ex,ey,hw.1,f.at wk Vd hw.2⟩
  ·exact hw.elim
 ·rename_i a b
  obtain ⟨ex,hx⟩:=Zd rd
  obtain ⟨ey,hy⟩:=Zd re
  split at hw
  ·have hl:(a ++ b).length<=sizeLine:=by rw [List.length_append,<- V5]; exact hw.1
   have hq:=f.at wk (Vab hl) hw.2
   refine Zbc pins s σ H x y v u Q I rx ry ⟨_,_,ex,ey,?_,?_⟩
   ·show a.toArray.size + b.toArray.size<=_
    rw [<- V5]; simpa using hw.1
   ·have e:(⟨a.toArray⟩ ++ ⟨b.toArray⟩:Str)=⟨(a ++ b).toArray⟩:=by
     show Str.mk (a.toArray ++ b.toArray)=_
     simp
    rw [e]; exact hq
  ·exact hw.elim
 ·rename_i a n
  obtain ⟨rfl,hx⟩:=Zd rd
  cases Yb re
  split at hw
  ·obtain ⟨⟨n2,n3,a1,a2⟩,hq⟩:=hw
   obtain ⟨t,rfl⟩:=rx
   obtain ⟨u',rfl⟩:=ry
   have hal:(⟨a.toArray⟩:Str).length=a.length:=by simp [Str.length]
   have hflat:∀ (m:Nat) (acc:Array Nat),((List.replicate m a.toArray).foldl (· ++ ·) acc).toList=acc.toList ++ (List.replicate m a).flatten:=by
    intro m
    induction m with
    | zero=>intro acc; simp
    | succ m ih=>intro acc; rw [List.replicate_succ,List.foldl_cons,ih]; simp [List.replicate_succ]
   have hlen:(List.replicate n.toNat a).flatten.length=n.toNat * a.length:=by simp
   have hle:n.toNat * a.length<=1000 * 1000:=Nat.mul_le_mul (by omega) a2
   have hln:(List.replicate n.toNat a).flatten.length<=sizeLine:=by rw [hlen,sizeLine_eq]; omega
   have e:(⟨(List.replicate n.toNat (⟨a.toArray⟩:Str).cps).foldl (· ++ ·) #[]⟩:Str)=⟨(List.replicate n.toNat a).flatten.toArray⟩:=by
    have:=hflat n.toNat #[]
    congr 1
    apply Array.toList_inj.mp
    simpa using this
   refine PySem.P.mul_str (by rw [decide_eq_false (by omega),decide_eq_false (by omega)]; rfl) (fun _ _=>?_) (fun _ _=>?_) ?_
   ·rw [hal]
    have:(1000:Int)<=(2 ^ 63 - 1) / n:=(Int.le_ediv_iff_mul_le (by omega)).mpr (by omega)
    omega
   ·rw [hal]
    have h3:a.length * n.toNat<=1000000:=by rw [Nat.mul_comm]; omega
    unfold Builtin.Str.tooLong
    exact decide_eq_false (Nat.not_lt.mpr (Nat.le_trans h3 (by rw [sizeLine_eq]; decide)))
   ·by_cases n0:n=0
    ·subst n0
     exact ⟨by decide,.str _,H,I.tok _,⟨_,rfl⟩,f.at wk (Vab hln) hq⟩
    by_cases n1:n=1
    ·subst n1
     have e1:(List.replicate (1:Int).toNat a).flatten=a:=by simp
     rw [e1] at hq hln
     exact ⟨.str _,H,I,⟨_,rfl⟩,f.at wk (Vab hln) hq⟩
    rw [if_neg (by omega),if_neg (by rw [hal]; simp only [Bool.or_eq_true,beq_iff_eq]; omega),e]
    exact ⟨by simpa [Str.length] using hln,.str _,H,I.tok _,⟨_,rfl⟩,f.at wk (Vab hln) hq⟩
  ·exact hw.elim
 ·rename_i a b
  obtain ⟨p,xs,ex,hx,_,r1⟩:=Yg rd
  obtain ⟨q,ys,ey,hy,_,r2⟩:=Yg re
  split at hw
  ·have l1:=r1.length
   have l2:=r2.length
   refine op_cat pins s σ H x y v u Q I rx ry ⟨p,q,xs,ys,ex,ey,hx,hy,by have h1:=hw.1; rw [l1,l2,V5] at h1; exact h1,fun z hz=>?_⟩
   exact Wau wk f (r1.append r2) hw.2 hz
  ·exact hw.elim
 ·rename_i a b
  obtain ⟨p,xs,ex,hx,nx,r1⟩:=Ze rd
  obtain ⟨q,ys,ey,hy,_,r2⟩:=Ze re
  split at hw
  ·obtain ⟨h2,h3⟩:=hw
   have l1:=r1.length
   have l2:=r2.length
   by_cases h1:a=[]
   ·subst h1
    rw [List.nil_append] at h3
    subst ex ey
    cases rx
    cases ry
    obtain ⟨its,q1,p1,_⟩:=I.tuple (SqT.of hx)
    obtain ⟨its2,q2,p2,_⟩:=I.tuple (SqT.of hy)
    have e1:its=[]:=List.length_eq_zero_iff.mp (by rw [<- q1.length,<- l1]; rfl)
    exact Vb6 p1 p2 e1 ⟨.ref q,H,I,rfl,f.at wk re h3⟩
   refine op_catT pins s σ H x y v u Q I rx ry ⟨p,q,xs,ys,ex,ey,.of hx,.of hy,?_,by rw [l1,l2,V5] at h2; exact h2,fun z=>?_,fun z w hw'=>X5 wk f (r1.append r2) h3 hw'⟩
   ·intro z; rw [z] at l1; exact h1 (List.length_eq_zero_iff.mp l1)
   ·rw [z] at l2
    have e:b=[]:=List.length_eq_zero_iff.mp l2
    rw [e,List.append_nil] at h3
    rw [<- ex]
    exact f.at wk rd h3
  ·exact hw.elim
 ·exact hw.elim
end
end DW
end
section
namespace DW
open PySem
structure Ctx where
 N:List Str
 names:List (Str×NameKind)
 blts:List Str
 calm:Bool
 rs:Bool
noncomputable abbrev Ctx.in_ (c:Ctx) (N:List Str) (names:List (Str×NameKind)):Ctx:=⟨N,names,c.blts,c.calm,true⟩
noncomputable abbrev Ctx.of (N:List Str) (names:List (Str×NameKind)) (blts:List Str):Ctx:=⟨N,names,blts,true,true⟩
noncomputable def Ctx.vis (c:Ctx) (x:Str):Bool:=match c.names.lookup x with
 | some .local=>true
 | some .cell=>true
 | some .free=>true
 | _=>false
noncomputable def Ctx.loc (c:Ctx) (x:Str):Bool:=match c.names.lookup x with
 | some .local=>true
 | some .cell=>true
 | _=>false
noncomputable def Ctx.glb (c:Ctx) (x:Str):Bool:=match c.names.lookup x with
 | some .globalImplicit=>true
 | _=>false
noncomputable def Ctx.at_ (c:Ctx) (i:Nat) (x:Str):Bool:=match c.N[i]? with
 | some y=>decide (y=x)
 | none=>false
noncomputable def Yo (x:Str):Bool:=(x == ("__debug__" : Str)) || (x == ("__classdict__" : Str))
noncomputable def mC:Const->D->Bool
 | .none,.non=>true
 | .bool a,.bl b=>a == b
 | .int i,.int j=>i == j
 | .str s,.str x=>decide (s.cps.toList=x) && decide (x.length<=16777216)
 | _,_=>false
noncomputable def notStar:Expr->Bool
 | .Starred ..=>false
 | _=>true
noncomputable def Vj:Expr->Bool
 | .Set ..=>false
 | _=>true
noncomputable def Xi:Expr->Bool
 | .ListComp ..=>false
 | .SetComp ..=>false
 | .DictComp ..=>false
 | _=>true
noncomputable def Wi:Expr->Bool
 | .Name ..=>true
 | .Constant ..=>true
 | .BinOp ..=>true
 | .UnaryOp ..=>true
 | .Call ..=>true
 | .Subscript ..=>true
 | .Attribute ..=>true
 | .Tuple ..=>true
 | _=>false
noncomputable def Vaz:Expr->Bool
 | .Name ..=>true
 | .Subscript ..=>true
 | .Attribute ..=>true
 | .Constant ..=>true
 | .Call (.Name ..) (_ :: _) _ _=>true
 | _=>false
theorem Vae {f:Expr} {as:List Expr} {ks:List Keyword} {p:Pos} (h:Vaz (.Call f as ks p)=true):∃ x q a r,f = .Name x q/\as=a :: r:=by
 cases f with
 | Name x q=>cases as with
  | nil=>exact (Bool.false_ne_true h).elim
  | cons a r=>exact ⟨x,q,a,r,rfl,rfl⟩
 | _=>exact (Bool.false_ne_true h).elim
noncomputable def bname (x:String):Str:=if x = "mlist" then "list" else if x = "msorted" then "sorted" else if x = "isorted" then "sorted" else if x = "dsorted" then "sorted" else if x = "min3" then "min" else if x = "tsorted" then "sorted" else if x = "mtsorted" then "sorted" else Str.ofString x
noncomputable def Zc (c:Ctx) (x:Str):Bool:=c.glb x && c.blts.contains x
noncomputable def keyC:Option Expr->DKey->Bool
 | some (.Constant (.int i) _ _),.inl j=>i == j
 | some (.Constant (.str s) _ _),.inr x=>decide (s.cps.toList=x)
 | _,_=>false
noncomputable def Zm (c:Ctx):List Nat->Option (List Str)
 | []=>some []
 | i :: is=>match c.N[i]?,Zm c is with
  | some x,some r=>some (x :: r)
  | _,_=>none
noncomputable def Zaz (c:Ctx) (scope:Scope) (Nc:List Str) (cap:List Str):Bool :=
 (scope.kind == .function) && scope.names.all (fun y=>y.2 != .cell || (scope.names.lookup y.1 == some .cell)) && scope.names.all (fun y=>y.2 != .local || (scope.names.lookup y.1 == some .local)) &&
 decide (Nc.Nodup) && cap.all (fun y=>scope.names.lookup y == some .free) && scope.names.all (fun y=>y.2 != .free || (c.names.lookup y.1 == some .cell || c.names.lookup y.1 == some .free))
noncomputable def namesOf:List Expr->Option (List Str)
 | []=>some []
 | .Name x _ :: as=>(namesOf as).map (x :: ·)
 | _ :: _=>none
noncomputable def Waf (tt:Bool) (a:Expr):Option (List Str):=match tt with
 | false=>match a with | .Name x _=>some [x] | _=>none
 | true=>match a with | .Tuple ts _ _=>namesOf ts | _=>none
noncomputable def Vl (c:Ctx):List Nat->List Expr->Bool
 | [],[]=>true
 | i :: is,a :: as=>(match a with | .Name x _=>c.at_ i x && c.loc x | _=>false) && Vl c is as
 | _,_=>false
noncomputable def mTg (c:Ctx) (is:List Nat) (tt:Bool) (a:Expr):Bool :=
 match tt with
 | false=>Vl c is [a]
 | true=>match a with | .Tuple ts _ _=>Vl c is ts | _=>false
noncomputable def V8 (tt:Bool):It->Bool
 | .enum _=>tt
 | _=>true
noncomputable def opt {α:Type} (o:Option α) (f:α->Bool):Bool:=match o with
 | some x=>f x
 | none=>false
theorem Wa {α:Type} {o:Option α} {f:α->Bool} (h:opt o f=true):∃ x,o=some x/\f x=true:=by
 cases o with
 | none=>exact (Bool.false_ne_true h).elim
 | some x=>exact ⟨x,rfl,h⟩
theorem Za {α:Type} {x:α} {P:Prop} (h:none=some x):P:=(Option.some_ne_none x h.symm).elim
noncomputable def W4:Expr->Option Str
 | .Name x _=>some x
 | _=>none
theorem Wn {a:Expr} {t:Str} (h:W4 a=some t):∃ p,a = .Name t p:=by
 cases a with
 | Name x p=>cases Option.some.inj (show some x=some t from h); exact ⟨p,rfl⟩
 | _=>exact Za h
noncomputable def Xbi:Expr->Option Const
 | .Constant k _ _=>some k
 | _=>none
theorem Wa9 {a:Expr} {t:Const} (h:Xbi a=some t):∃ j p,a = .Constant t j p:=by
 cases a with
 | Constant k j p=>cases Option.some.inj (show some k=some t from h); exact ⟨j,p,rfl⟩
 | _=>exact Za h
noncomputable def vBin:Expr->Option (Expr×Operator×Expr)
 | .BinOp l o r _=>some (l,o,r)
 | _=>none
theorem Xb5 {a:Expr} {t:(Expr×Operator×Expr)} (h:vBin a=some t):∃ p,a = .BinOp t.1 t.2.1 t.2.2 p:=by
 cases a with
 | BinOp l o r p=>cases Option.some.inj (show some (l,o,r)=some t from h); exact ⟨p,rfl⟩
 | _=>exact Za h
noncomputable def vSub:Expr->Option (Expr×Expr)
 | .Subscript x y _=>some (x,y)
 | _=>none
theorem V2 {a:Expr} {t:(Expr×Expr)} (h:vSub a=some t):∃ p,a = .Subscript t.1 t.2 p:=by
 cases a with
 | Subscript x y p=>cases Option.some.inj (show some (x,y)=some t from h); exact ⟨p,rfl⟩
 | _=>exact Za h
noncomputable def vTup:Expr->Option (List Expr)
 | .Tuple x _ _=>some x
 | _=>none
theorem Va1 {a:Expr} {t:(List Expr)} (h:vTup a=some t):∃ k p,a = .Tuple t k p:=by
 cases a with
 | Tuple x k p=>cases Option.some.inj (show some x=some t from h); exact ⟨k,p,rfl⟩
 | _=>exact Za h
noncomputable def vLst:Expr->Option (List Expr)
 | .List x _=>some x
 | _=>none
theorem Yb5 {a:Expr} {t:(List Expr)} (h:vLst a=some t):∃ p,a = .List t p:=by
 cases a with
 | List x p=>cases Option.some.inj (show some x=some t from h); exact ⟨p,rfl⟩
 | _=>exact Za h
noncomputable def vNeg:Expr->Option Expr
 | .UnaryOp .USub l _=>some l
 | _=>none
theorem Zb5 {a:Expr} {t:Expr} (h:vNeg a=some t):∃ p,a = .UnaryOp .USub t p:=by
 cases a with
 | UnaryOp o l p =>
  cases o with
  | USub=>cases Option.some.inj (show some l=some t from h); exact ⟨p,rfl⟩
  | _=>exact Za h
 | _=>exact Za h
noncomputable def vNot:Expr->Option Expr
 | .UnaryOp .Not l _=>some l
 | _=>none
theorem Vb4 {a:Expr} {t:Expr} (h:vNot a=some t):∃ p,a = .UnaryOp .Not t p:=by
 cases a with
 | UnaryOp o l p =>
  cases o with
  | Not=>cases Option.some.inj (show some l=some t from h); exact ⟨p,rfl⟩
  | _=>exact Za h
 | _=>exact Za h
noncomputable def vCmp:Expr->Option (Expr×CmpOp×Expr)
 | .Compare l [o] [r] _=>some (l,o,r)
 | _=>none
theorem Xaf {a:Expr} {t:(Expr×CmpOp×Expr)} (h:vCmp a=some t):∃ p,a = .Compare t.1 [t.2.1] [t.2.2] p:=by
 cases a with
 | Compare l os rs p =>
  match os,rs,h with
  | [o],[r],h=>cases Option.some.inj (show some (l,o,r)=some t from h); exact ⟨p,rfl⟩
  | [],_,h=>exact Za h
  | _ :: _ :: _,_,h=>exact Za h
  | [_],[],h=>exact Za h
  | [_],_ :: _ :: _,h=>exact Za h
 | _=>exact Za h
noncomputable def vCmp2:Expr->Option (Expr×CmpOp×CmpOp×Expr×Expr)
 | .Compare l [o,q] [m,r] _=>some (l,o,q,m,r)
 | _=>none
theorem Wbi {a:Expr} {t:(Expr×CmpOp×CmpOp×Expr×Expr)} (h:vCmp2 a=some t):∃ p,a = .Compare t.1 [t.2.1,t.2.2.1] [t.2.2.2.1,t.2.2.2.2] p:=by
 cases a with
 | Compare l os rs p =>
  match os,rs,h with
  | [o,q],[m,r],h=>cases Option.some.inj (show some (l,o,q,m,r)=some t from h); exact ⟨p,rfl⟩
  | [],_,h=>exact Za h
  | [_],_,h=>exact Za h
  | _ :: _ :: _ :: _,_,h=>exact Za h
  | [_,_],[],h=>exact Za h
  | [_,_],[_],h=>exact Za h
  | [_,_],_ :: _ :: _ :: _,h=>exact Za h
 | _=>exact Za h
noncomputable def vAnd:Expr->Option (Expr×Expr)
 | .BoolOp .And (v :: w :: rest) p=>some (v,match rest with | []=>w | _ :: _=>.BoolOp .And (w :: rest) p)
 | _=>none
theorem Wb5 {a:Expr} {t:Expr×Expr} (h:vAnd a=some t):(∃ p,a = .BoolOp .And [t.1,t.2] p)∨∃ w z rest p,a = .BoolOp .And (t.1 :: w :: z :: rest) p/\t.2 = .BoolOp .And (w :: z :: rest) p:=by
 cases a with
 | BoolOp o vs p =>
  cases o with
  | And =>
   match vs,h with
   | [v,w],h=>cases Option.some.inj (show some (v,w)=some t from h); exact .inl ⟨p,rfl⟩
   | v :: w :: z :: rest,h=>cases Option.some.inj (show some (v,.BoolOp .And (w :: z :: rest) p)=some t from h); exact .inr ⟨w,z,rest,p,rfl,rfl⟩
   | [],h=>exact Za h
   | [_],h=>exact Za h
  | _=>exact Za h
 | _=>exact Za h
noncomputable def vOr:Expr->Option (Expr×Expr)
 | .BoolOp .Or (v :: w :: rest) p=>some (v,match rest with | []=>w | _ :: _=>.BoolOp .Or (w :: rest) p)
 | _=>none
theorem vOr_inv {a:Expr} {t:Expr×Expr} (h:vOr a=some t):(∃ p,a = .BoolOp .Or [t.1,t.2] p)∨∃ w z rest p,a = .BoolOp .Or (t.1 :: w :: z :: rest) p/\t.2 = .BoolOp .Or (w :: z :: rest) p:=by
 cases a with
 | BoolOp o vs p =>
  cases o with
  | Or =>
   match vs,h with
   | [v,w],h=>cases Option.some.inj (show some (v,w)=some t from h); exact .inl ⟨p,rfl⟩
   | v :: w :: z :: rest,h=>cases Option.some.inj (show some (v,.BoolOp .Or (w :: z :: rest) p)=some t from h); exact .inr ⟨w,z,rest,p,rfl,rfl⟩
   | [],h=>exact Za h
   | [_],h=>exact Za h
  | _=>exact Za h
 | _=>exact Za h
noncomputable def Vk:Expr->Option (Str×List Expr)
 | .Call (.Name y _) as [] _=>some (y,as)
 | _=>none
theorem Xf {a:Expr} {t:(Str×List Expr)} (h:Vk a=some t):∃ p q,a = .Call (.Name t.1 p) t.2 [] q:=by
 cases a with
 | Call f as ks q =>
  cases f with
  | Name y p =>
   cases ks with
   | nil=>cases Option.some.inj (show some (y,as)=some t from h); exact ⟨p,q,rfl⟩
   | cons _ _=>exact Za h
  | _=>exact Za h
 | _=>exact Za h
noncomputable def Vbi:Expr->Option (Str×Expr×Keyword)
 | .Call (.Name y _) [l] [k] _=>some (y,l,k)
 | _=>none
theorem Va9 {a:Expr} {t:(Str×Expr×Keyword)} (h:Vbi a=some t):∃ p q,a = .Call (.Name t.1 p) [t.2.1] [t.2.2] q:=by
 cases a with
 | Call f as ks q =>
  cases f with
  | Name y p =>
   match as,ks,h with
   | [l],[k],h=>cases Option.some.inj (show some (y,l,k)=some t from h); exact ⟨p,q,rfl⟩
   | [],_,h=>exact Za h
   | [_],[],h=>exact Za h
   | [_],_ :: _ :: _,h=>exact Za h
   | _ :: _ :: _,_,h=>exact Za h
  | _=>exact Za h
 | _=>exact Za h
noncomputable def Ybi:Expr->Option (Expr×Str×List Expr×Bool)
 | .Call (.Attribute o m p) as [] q=>some (o,m,as,p.endLine == q.line)
 | _=>none
theorem Yak {a:Expr} {t:(Expr×Str×List Expr×Bool)} (h:Ybi a=some t):∃ p q,a = .Call (.Attribute t.1 t.2.1 p) t.2.2.1 [] q/\t.2.2.2=(p.endLine == q.line):=by
 cases a with
 | Call f as ks q =>
  cases f with
  | Attribute o m p =>
   cases ks with
   | nil=>cases Option.some.inj (show some (o,m,as,p.endLine == q.line)=some t from h); exact ⟨p,q,rfl,rfl⟩
   | cons _ _=>exact Za h
  | _=>exact Za h
 | _=>exact Za h
noncomputable def vSlc:Expr->Option (Expr×Option Expr×Option Expr)
 | .Subscript x (.Slice lo hi none _) _=>some (x,lo,hi)
 | _=>none
theorem Wb4 {a:Expr} {t:(Expr×Option Expr×Option Expr)} (h:vSlc a=some t):∃ p q,a = .Subscript t.1 (.Slice t.2.1 t.2.2 none p) q:=by
 cases a with
 | Subscript x y q =>
  cases y with
  | Slice lo hi st p =>
   cases st with
   | none=>cases Option.some.inj (show some (x,lo,hi)=some t from h); exact ⟨p,q,rfl⟩
   | some _=>exact Za h
  | _=>exact Za h
 | _=>exact Za h
noncomputable def vTwo:List Expr->Option (Expr×Expr)
 | [x,y]=>some (x,y)
 | _=>none
theorem Xb4 {a:List Expr} {t:Expr×Expr} (h:vTwo a=some t):a=[t.1,t.2]:=by
 match a,h with
 | [x,y],h=>cases Option.some.inj (show some (x,y)=some t from h); rfl
 | [],h=>exact Za h
 | [_],h=>exact Za h
 | _ :: _ :: _ :: _,h=>exact Za h
noncomputable def vOne:List Expr->Option Expr
 | [x]=>some x
 | _=>none
theorem Zr {a:List Expr} {t:Expr} (h:vOne a=some t):a=[t]:=by
 match a,h with
 | [x],h=>cases Option.some.inj (show some x=some t from h); rfl
 | [],h=>exact Za h
 | _ :: _ :: _,h=>exact Za h
noncomputable def vComp:Expr->Option (Expr×Expr×Expr×List Expr×Scope)
 | .ListComp e [g] s _=>if g.is_async=0 then some (e,g.target,g.iter,g.ifs,s) else none
 | _=>none
theorem Xak {a:Expr} {t:Expr×Expr×Expr×List Expr×Scope} (h:vComp a=some t):∃ p,a = .ListComp t.1 [⟨t.2.1,t.2.2.1,t.2.2.2.1,0⟩] t.2.2.2.2 p:=by
 cases a with
 | ListComp e gs s p =>
  match gs,h with
  | [⟨tg,it,ifs,k⟩],h =>
   have h:(if k=0 then some (e,tg,it,ifs,s) else none)=some t:=h
   by_cases q:k=0
   ·rw [if_pos q] at h; cases Option.some.inj h; exact ⟨p,by rw [q]⟩
   ·rw [if_neg q] at h; exact Za h
  | [],h=>exact Za h
  | _ :: _ :: _,h=>exact Za h
 | _=>exact Za h
noncomputable def mDsp (ks:List DKey) (as:Es) (a:Expr):Bool:=match ks,as,a with
 | [k],.cons (.cst (.int i)) .nil,.Dict [k'] [.Constant (.int j) _ _] _=>keyC k' k && i == j
 | _,_,_=>false
noncomputable def Wat:It->Bool
 | .rng as=>decide (Yap as<=2)
 | _=>false
noncomputable def Vbt:Expr->Bool
 | .Tuple [.Subscript (.Name z1 _) (.Name n1 _) _,.BinOp (.BinOp (.BinOp (.Name n2 _) .Mult (.Constant (.int 7) _ _) _) .Add (.Call (.Name l1 _) [.Name f1 _] [] _) _) .Mod (.Constant (.int 5) _ _) _] _ _=>(z1 == Str.ofString "sizes") && (n1 == Str.ofString "number") && (n2 == Str.ofString "number") && (l1 == Str.ofString "len") && (f1 == Str.ofString "found")
 | _=>false
noncomputable def Yao (k:Keyword):Bool:=(k.arg == some (Str.ofString "key")) && (match k.value with
 | .Lambda ⟨[],[⟨a,none,_⟩],none,[],[],none,[]⟩ b ⟨.function,[(s1,.local),(s2,.free),(s3,.free),(s4,.globalImplicit)],false,false,[]⟩ _ =>
  Vbt b && (a == Str.ofString "number") && (s1 == Str.ofString "number") && (s2 == Str.ofString "found") && (s3 == Str.ofString "sizes") && (s4 == Str.ofString "len")
 | _=>false)
noncomputable def Xbt:E->Bool
 | .cst .non=>true
 | _=>false
noncomputable def capV (c:Ctx):E->Bool
 | .tup (.cons (.var i) (.cons (.var j) .nil))=>c.at_ i (Str.ofString "sizes") && (c.names.lookup (Str.ofString "sizes") == some .cell) && c.at_ j (Str.ofString "found") && (c.names.lookup (Str.ofString "found") == some .cell) && c.blts.contains (Str.ofString "len")
 | _=>false
mutual
noncomputable def mE (c:Ctx):E->Expr->Bool
 | .var i,a=>opt (W4 a) fun x=>c.at_ i x && c.vis x && !Yo x
 | .cst d,a=>opt (Xbi a) fun k=>mC k d
 | .gbl y d,a=>opt (W4 a) fun x=>x == y && c.glb x && !Yo x
 | .bin op l r,a=>opt (vBin a) fun t=>op == t.2.1 && mE c l t.1 && mE c r t.2.2
 | .neg l,a=>opt (vNeg a) fun t=>mE c l t
 | .not l,a=>opt (vNot a) fun t=>mE c l t
 | .cmp op l r,a=>opt (vCmp a) fun t=>op == t.2.1 && mE c l t.1 && mE c r t.2.2 && Vj t.2.2
 | .cmpS n l r,a=>opt (vCmp a) fun t=>(t.2.1 == (if n then CmpOp.NotEq else CmpOp.Eq)) && mE c l t.1 && mE c r t.2.2 && Vj t.2.2
 | .cmpT n l r,a=>opt (vCmp a) fun t=>(t.2.1 == (if n then CmpOp.NotEq else CmpOp.Eq)) && mE c l t.1 && mE c r t.2.2 && Vj t.2.2
 | .chain p q l m r,a=>opt (vCmp2 a) fun t=>p == t.2.1 && q == t.2.2.1 && mE c l t.1 && mE c m t.2.2.2.1 && mE c r t.2.2.2.2 && Vj t.2.2.2.2 && Vj t.2.2.2.1
 | .and x y,a=>opt (vAnd a) fun t=>mE c x t.1 && mE c y t.2
 | .or x y,a=>opt (vOr a) fun t=>mE c x t.1 && mE c y t.2
 | .call x _ as,a=>opt (Vk a) fun t=>x == t.1 && c.glb x && !Yo x && mEs c as t.2
 | .blt x as,a=>opt (Vk a) fun t=>c.calm && knownB.contains x && bname x == t.1 && Zc c t.1 && mEs c as t.2 && !t.2.isEmpty
 | .bltD x l r,a=>false || false || (opt (Vbi a) fun t=>c.calm && x == "ksort" && t.1 == Str.ofString "sorted" && Zc c t.1 && mE c l t.2.1 && notStar t.2.1 && Yao t.2.2 && capV c r) || (opt (Vk a) fun q=>opt (vOne q.2) fun e'=>opt (Vk e') fun t=>opt (vOne t.2) fun y'=>c.calm && x == "dicten" && (q.1 == Str.ofString "dict") && Zc c q.1 && (t.1 == Str.ofString "enumerate") && Zc c t.1 && mE c l y' && notStar y' && Xbt r)
 | .isin l t,a=>opt (Vk a) fun q=>opt (vTwo q.2) fun w=>opt (W4 w.2) fun z=>(q.1 == Str.ofString "isinstance") && Zc c q.1 && ["int","bool","str","tuple","list","dict"].contains t && (z == Str.ofString t) && Zc c z && mE c l w.1 && notStar w.1
 | .isin l t (some _),a=>false
 | .lset l,a=>opt (Vk a) fun q=>opt (vOne q.2) fun r=>opt (Vk r) fun t=>opt (vOne t.2) fun x=>c.calm && (q.1 == Str.ofString "len") && Zc c q.1 && (t.1 == Str.ofString "set") && Zc c t.1 && mE c l x && notStar x
 | .meth m o as,a=>opt (Ybi a) fun t=>(if t.2.2.1.isEmpty then ["pop"].contains m else ["append","pop"].contains m) && t.2.1 == Str.ofString m && Vaz t.1 && t.2.2.2 && mE c o t.1 && mEs c as t.2.2.1 && decide (t.2.2.1.length < 30)
 | .sqm m o as,a=>opt (Ybi a) fun t=>["pop"].contains m && t.2.1 == Str.ofString m && Vaz t.1 && t.2.2.2 && mE c o t.1 && mEs c as t.2.2.1 && decide (t.2.2.1.length < 30) && !t.2.2.1.isEmpty
 | .idx x y,a=>opt (vSub a) fun t=>mE c x t.1 && mE c y t.2 && Wi t.2
 | .slc _ x lo hi,a=>opt (vSlc a) fun t=>mE c x t.1 && mO c lo t.2.1 && mO c hi t.2.2
 | .tup as,a=>opt (vTup a) fun es=>mEs c as es && decide (es.length<=16777216)
 | .lst _ as,a=>opt (vLst a) fun es=>mEs c as es && decide (es.length<=16777216)
 | .dsp ks as,a=>mDsp ks as a
 | .comp _ n tt cap elt it cond,a=>opt (vComp a) fun t=>(c.calm || (Wat it && !tt)) && opt (Waf tt t.2.1) fun xs=>opt (Zm c cap) fun cs=>n == xs.length && Zaz c t.2.2.2.2 (xs ++ cs) cs && V8 tt it && mI c it t.2.2.1 && mTg (c.in_ (xs ++ cs) t.2.2.2.2.names) (List.range n) tt t.2.1 && mE (c.in_ (xs ++ cs) t.2.2.2.2.names) elt t.1 && mEs (c.in_ (xs ++ cs) t.2.2.2.2.names) cond t.2.2.2.1 && decide (t.2.2.2.1.length<=1)
 | .frz x _,a=>mE c x a
 | .dget x y,a=>opt (vSub a) fun t=>c.calm && mE c x t.1 && mE c y t.2 && Wi t.2
 | .lrng m x r,a=>opt (Vk a) fun t=>opt (vOne t.2) fun ra=>opt (Vk ra) fun u=>opt (vOne u.2) fun z=>c.calm && (t.1 == Str.ofString (lrN m)) && Zc c t.1 && (u.1 == Str.ofString (lrM r)) && Zc c u.1 && notStar ra && mE c x z && notStar z && !r && m.isSome
noncomputable def mEs (c:Ctx):Es->List Expr->Bool
 | .nil,as=>as.isEmpty
 | .cons e es,as=>match as with | []=>false | a :: as=>mE c e a && notStar a && mEs c es as
noncomputable def mO (c:Ctx):Es->Option Expr->Bool
 | .nil,a=>a.isNone
 | .cons e es,a=>match a,es with | some a,.nil=>mE c e a | _,_=>false
noncomputable def mI (c:Ctx):It->Expr->Bool
 | .seq e,a=>mE c e a && Vj a
 | .rng as,a=>opt (Vk a) fun t=>(t.1 == Str.ofString "range") && Zc c t.1 && mEs c as t.2 && (t.2.length == 1)
 | .enum l,a=>opt (Vk a) fun t=>match t.2 with | [l']=>(t.1 == Str.ofString "enumerate") && Zc c t.1 && mE c l l' && notStar l' | _=>false
end
noncomputable def Y5:Expr->Bool
 | .Tuple ..=>false
 | .List ..=>false
 | _=>true
noncomputable def isLocal (c:Ctx) (x:Str):Bool:=c.names.lookup x == some .local
noncomputable def Xaw:E->Bool
 | .comp ..=>true
 | _=>false
noncomputable def uAsg:Stmt->Option (Expr×Expr)
 | .Assign [t] v _=>some (t,v)
 | _=>none
theorem Z3 {a:Stmt} {t:Expr×Expr} (h:uAsg a=some t):∃ p,a = .Assign [t.1] t.2 p:=by
 cases a with
 | Assign ts v p =>
  match ts,h with
  | [x],h=>cases Option.some.inj (show some (x,v)=some t from h); exact ⟨p,rfl⟩
  | [],h=>exact Za h
  | _ :: _ :: _,h=>exact Za h
 | _=>exact Za h
noncomputable def uAug:Stmt->Option (Expr×Operator×Expr)
 | .AugAssign t o v _=>some (t,o,v)
 | _=>none
theorem Wb6 {a:Stmt} {t:Expr×Operator×Expr} (h:uAug a=some t):∃ p,a = .AugAssign t.1 t.2.1 t.2.2 p:=by
 cases a with
 | AugAssign x o v p=>cases Option.some.inj (show some (x,o,v)=some t from h); exact ⟨p,rfl⟩
 | _=>exact Za h
noncomputable def uExp:Stmt->Option Expr
 | .Expr v _=>some v
 | _=>none
theorem Xb6 {a:Stmt} {t:Expr} (h:uExp a=some t):∃ p,a = .Expr t p:=by
 cases a with
 | Expr v p=>cases Option.some.inj (show some v=some t from h); exact ⟨p,rfl⟩
 | _=>exact Za h
noncomputable def uRet:Stmt->Option (Option Expr)
 | .Return v _=>some v
 | _=>none
theorem Zb6 {a:Stmt} {t:Option Expr} (h:uRet a=some t):∃ p,a = .Return t p:=by
 cases a with
 | Return v p=>cases Option.some.inj (show some v=some t from h); exact ⟨p,rfl⟩
 | _=>exact Za h
noncomputable def uIf:Stmt->Option (Expr×List Stmt×List Stmt)
 | .If t x y _=>some (t,x,y)
 | _=>none
theorem uIf_inv {a:Stmt} {t:Expr×List Stmt×List Stmt} (h:uIf a=some t):∃ p,a = .If t.1 t.2.1 t.2.2 p:=by
 cases a with
 | If u x y p=>cases Option.some.inj (show some (u,x,y)=some t from h); exact ⟨p,rfl⟩
 | _=>exact Za h
noncomputable def uFor:Stmt->Option (Expr×Expr×List Stmt)
 | .For t i b [] _=>some (t,i,b)
 | _=>none
theorem Yb6 {a:Stmt} {t:Expr×Expr×List Stmt} (h:uFor a=some t):∃ p,a = .For t.1 t.2.1 t.2.2 [] p:=by
 cases a with
 | For u i b e p =>
  cases e with
  | nil=>cases Option.some.inj (show some (u,i,b)=some t from h); exact ⟨p,rfl⟩
  | cons _ _=>exact Za h
 | _=>exact Za h
noncomputable def uWhl:Stmt->Option (Expr×List Stmt)
 | .While t b [] _=>some (t,b)
 | _=>none
theorem Vb5 {a:Stmt} {t:Expr×List Stmt} (h:uWhl a=some t):∃ p,a = .While t.1 t.2 [] p:=by
 cases a with
 | While u b e p =>
  cases e with
  | nil=>cases Option.some.inj (show some (u,b)=some t from h); exact ⟨p,rfl⟩
  | cons _ _=>exact Za h
 | _=>exact Za h
mutual
noncomputable def mS (c:Ctx):S->Stmt->Bool
 | .set i e,a=>opt (uAsg a) fun t=>opt (W4 t.1) fun x=>c.at_ i x && c.loc x && mE c e t.2 && (Xi t.2 || Xaw e)
 | .setT is e,a=>opt (uAsg a) fun t=>opt (vTup t.1) fun ts=>c.calm && Vl c is ts && mE c e t.2 && Xi t.2 && Y5 t.2
 | .dput o i e,a=>opt (uAsg a) fun t=>opt (vSub t.1) fun u=>c.calm && mE c o u.1 && mE c i u.2 && Wi u.2 && mE c e t.2 && Xi t.2
 | .setIx o i e,a=>opt (uAsg a) fun t=>opt (vSub t.1) fun u=>mE c o u.1 && mE c i u.2 && Wi u.2 && mE c e t.2 && Xi t.2
 | .aug i op e,a=>opt (uAug a) fun t=>opt (W4 t.1) fun x=>c.at_ i x && c.loc x && op == t.2.1 && (op == .Add || op == .Sub) && mE c e t.2.2
 | .exp e,a=>opt (uExp a) fun v=>mE c e v && Xi v
 | .ret e,a=>opt (uRet a) fun o=>opt o fun v=>mE c e v
 | .ite t x y,a=>opt (uIf a) fun u=>mE c t u.1 && mSs c x u.2.1 && mSs c y u.2.2
 | .for_ is tt it b,a=>opt (uFor a) fun u=>c.calm && mTg c is tt u.1 && mI c it u.2.1 && mSs c b u.2.2 && Vj u.2.1 && V8 tt it
 | .whl t b,a=>opt (uWhl a) fun u=>mE c t u.1 && mSs c b u.2
 | .nev,_=>true
noncomputable def mSs (c:Ctx):Ss->List Stmt->Bool
 | .nil,as=>as.isEmpty
 | .cons s r,as=>match as with | []=>false | a :: as=>mS c s a && mSs c r as
end
inductive Rf where
 | fn (x:Str) | mth (c m:String) | mk (c:String) | fld (c f:String)
 | din (x:Str) (ks:List (List Nat)) | dsp (x:Str) (ks:List (List Nat)) (sp:DSpX)
 | lam
 | fnM (x:Str) | rsi (c:String) (ks:List String) | efl (f:String) (tab:List String)
 | fnX (x:Str) (sp:DSpX) | mthX (c m:String) (sp:DSpX) | mkX (c:String) (sp:DSpX) | rse (c:String) | hdl (P:String) (tab:List String) | isx (tt:Bool) (ts:List String) (tab:List (String×Bool))
def spN:DSp:=fun _ _ _=>False
mutual
noncomputable def okE (P:Rf->DSp->Prop) (G:Str->D->Prop):E->Prop
 | .gbl x d=>G x d
 | .bin _ a b=>okE P G a/\okE P G b
 | .neg a=>okE P G a
 | .not a=>okE P G a
 | .cmp _ a b=>okE P G a/\okE P G b
 | .cmpS _ a b=>okE P G a/\okE P G b
 | .cmpT _ a b=>okE P G a/\okE P G b
 | .chain _ _ a b c=>okE P G a/\okE P G b/\okE P G c
 | .and a b=>okE P G a/\okE P G b
 | .or a b=>okE P G a/\okE P G b
 | .call x sp as=>P (.fn x) sp/\okEs P G as
 | .blt _ as=>okEs P G as
 | .bltD x a b=>(x = "ksort"->P .lam spN)/\okE P G a/\okE P G b
 | .isin a _=>okE P G a
 | .isin a t (some ks)=>P (.din (Str.ofString t) ks) spN/\okE P G a
 | .lset a=>okE P G a
 | .meth _ o as=>okE P G o/\okEs P G as
 | .sqm _ o as=>okE P G o/\okEs P G as
 | .idx a b=>okE P G a/\okE P G b
 | .slc _ a lo hi=>okE P G a/\okEs P G lo/\okEs P G hi
 | .tup as=>okEs P G as
 | .lst _ as=>okEs P G as
 | .dsp _ as=>okEs P G as
 | .comp _ _ _ _ elt it cond=>okE P G elt/\okI P G it/\okEs P G cond
 | .frz a _=>okE P G a
 | .dget a b=>okE P G a/\okE P G b
 | .lrng _ a _=>okE P G a
 | _=>True
noncomputable def okEs (P:Rf->DSp->Prop) (G:Str->D->Prop):Es->Prop
 | .nil=>True
 | .cons e es=>okE P G e/\okEs P G es
noncomputable def okI (P:Rf->DSp->Prop) (G:Str->D->Prop):It->Prop
 | .seq e=>okE P G e
 | .rng as=>okEs P G as
 | .enum a=>okE P G a
end
mutual
noncomputable def okS (P:Rf->DSp->Prop) (G:Str->D->Prop):S->Prop
 | .set _ e=>okE P G e
 | .setT _ e=>okE P G e
 | .dput o i e=>okE P G o/\okE P G i/\okE P G e
 | .setIx o i e=>okE P G o/\okE P G i/\okE P G e
 | .aug _ _ e=>okE P G e
 | .exp e=>okE P G e
 | .ret e=>okE P G e
 | .ite c a b=>okE P G c/\okSs P G a/\okSs P G b
 | .for_ _ _ it b=>okI P G it/\okSs P G b
 | .whl c b=>okE P G c/\okSs P G b
 | _=>True
noncomputable def okSs (P:Rf->DSp->Prop) (G:Str->D->Prop):Ss->Prop
 | .nil=>True
 | .cons s r=>okS P G s/\okSs P G r
end
end DW
end
section
namespace DW
open PySem
section
variable {P P':Rf->DSp->Prop} {G G':Str->D->Prop} (hp:∀ x sp,P x sp->P' x sp) (hg:∀ x d,G x d->G' x d)
include hp hg
mutual
theorem okE.mono:∀ e:E,okE P G e->okE P' G' e
 | .var _,h=>trivial
 | .cst _,h=>trivial
 | .gbl x d,h=>hg x d h
 | .bin _ a b,h=>⟨okE.mono a h.1,okE.mono b h.2⟩
 | .neg a,h=>okE.mono a h
 | .not a,h=>okE.mono a h
 | .cmp _ a b,h=>⟨okE.mono a h.1,okE.mono b h.2⟩
 | .cmpS _ a b,h=>⟨okE.mono a h.1,okE.mono b h.2⟩
 | .cmpT _ a b,h=>⟨okE.mono a h.1,okE.mono b h.2⟩
 | .chain _ _ a b c,h=>⟨okE.mono a h.1,okE.mono b h.2.1,okE.mono c h.2.2⟩
 | .and a b,h=>⟨okE.mono a h.1,okE.mono b h.2⟩
 | .or a b,h=>⟨okE.mono a h.1,okE.mono b h.2⟩
 | .call x sp as,h=>⟨hp (.fn x) sp h.1,okEs.mono as h.2⟩
 | .blt _ as,h=>okEs.mono as h
 | .bltD _ a b,h=>⟨fun z=>hp _ _ (h.1 z),okE.mono a h.2.1,okE.mono b h.2.2⟩
 | .isin a _,h=>okE.mono a h
 | .isin a _ (some _),h=>⟨hp _ _ h.1,okE.mono a h.2⟩
 | .lset a,h=>okE.mono a h
 | .meth _ o as,h=>⟨okE.mono o h.1,okEs.mono as h.2⟩
 | .sqm _ o as,h=>⟨okE.mono o h.1,okEs.mono as h.2⟩
 | .idx a b,h=>⟨okE.mono a h.1,okE.mono b h.2⟩
 | .slc _ a lo hi,h=>⟨okE.mono a h.1,okEs.mono lo h.2.1,okEs.mono hi h.2.2⟩
 | .tup as,h=>okEs.mono as h
 | .lst _ as,h=>okEs.mono as h
 | .dsp _ as,h=>okEs.mono as h
 | .comp _ _ _ _ elt it cond,h=>⟨okE.mono elt h.1,okI.mono it h.2.1,okEs.mono cond h.2.2⟩
 | .frz a _,h=>okE.mono a h
 | .lrng _ a _,h=>okE.mono a h
 | .dget a b,h=>⟨okE.mono a h.1,okE.mono b h.2⟩
theorem okEs.mono:∀ e:Es,okEs P G e->okEs P' G' e
 | .nil,_=>trivial
 | .cons e es,h=>⟨okE.mono e h.1,okEs.mono es h.2⟩
theorem okI.mono:∀ e:It,okI P G e->okI P' G' e
 | .seq e,h=>okE.mono e h
 | .rng as,h=>okEs.mono as h
 | .enum a,h=>okE.mono a h
end
end
mutual
theorem okS.mono:∀ (s:S) {P P':Rf->DSp->Prop} {G G':Str->D->Prop} (hp:∀ x sp,P x sp->P' x sp) (hg:∀ x d,G x d->G' x d),okS P G s->okS P' G' s
 | .set _ e,_,_,_,_,hp,hg,h=>okE.mono hp hg e h
 | .setT _ e,_,_,_,_,hp,hg,h=>okE.mono hp hg e h
 | .dput o i e,_,_,_,_,hp,hg,h=>⟨okE.mono hp hg o h.1,okE.mono hp hg i h.2.1,okE.mono hp hg e h.2.2⟩
 | .setIx o i e,_,_,_,_,hp,hg,h=>⟨okE.mono hp hg o h.1,okE.mono hp hg i h.2.1,okE.mono hp hg e h.2.2⟩
 | .aug _ _ e,_,_,_,_,hp,hg,h=>okE.mono hp hg e h
 | .exp e,_,_,_,_,hp,hg,h=>okE.mono hp hg e h
 | .ret e,_,_,_,_,hp,hg,h=>okE.mono hp hg e h
 | .ite c a b,_,_,_,_,hp,hg,h=>⟨okE.mono hp hg c h.1,okSs.mono a hp hg h.2.1,okSs.mono b hp hg h.2.2⟩
 | .for_ _ _ it b,_,_,_,_,hp,hg,h=>⟨okI.mono hp hg it h.1,okSs.mono b hp hg h.2⟩
 | .whl c b,_,_,_,_,hp,hg,h=>⟨okE.mono hp hg c h.1,okSs.mono b hp hg h.2⟩
 | .nev,_,_,_,_,_,_,_=>trivial
theorem okSs.mono:∀ (s:Ss) {P P':Rf->DSp->Prop} {G G':Str->D->Prop} (hp:∀ x sp,P x sp->P' x sp) (hg:∀ x d,G x d->G' x d),okSs P G s->okSs P' G' s
 | .nil,_,_,_,_,_,_,_=>trivial
 | .cons s r,_,_,_,_,hp,hg,h=>⟨okS.mono s hp hg h.1,okSs.mono r hp hg h.2⟩
end
end DW
end
section
set_option maxHeartbeats 2000000
namespace DW
open PySem PySem.Spec PyProof.Rows L2
section
variable {X:Cx} {pos:Pos}
end
end DW
end
section
namespace DW
open PySem PySem.Spec PyProof.Rows L2
mutual
noncomputable def pd:D->PyData
 | .non=>.none
 | .bl b=>.bool b
 | .int i=>.int i
 | .str x=>.str ⟨x.toArray⟩
 | .tup ds=>.tuple (pds ds)
 | .lst ds=>.list (pds ds)
 | _=>.none
noncomputable def pds:List D->List PyData
 | []=>[]
 | d :: ds=>pd d :: pds ds
end
mutual
theorem Wf:∀ (n:Nat) (d:D),flat n d=true->(pd d).canLay0=true
 | _,.non,_=>by simp [pd,PyData.canLay0]
 | _,.bl _,_=>by simp [pd,PyData.canLay0]
 | _,.int _,_=>by simp [pd,PyData.canLay0]
 | _,.str x,h=>by
  simp only [pd,PyData.canLay0,PyData.strOk]
  simpa [flat] using h
 | n + 1,.tup ds,h=>by simp only [pd,PyData.canLay0]; exact Wz n ds (by simpa [flat] using h)
 | n + 1,.lst ds,h=>by simp only [pd,PyData.canLay0]; exact Wz n ds (by simpa [flat] using h)
 | 0,.tup _,h=>by simp [flat] at h
 | 0,.lst _,h=>by simp [flat] at h
 | _,.ro _,h=>by simp [flat] at h
 | _,.loc _,h=>by simp [flat] at h
 | _,.dic _ _,h=>by simp [flat] at h
 | _,.fdc _ _,h=>by simp [flat] at h
theorem Wz:∀ (n:Nat) (ds:List D),flats n ds=true->PyData.canLayAll0 (pds ds)=true
 | _,[],_=>by simp [pds,PyData.canLayAll0]
 | n,d :: ds,h=>by
  have h':flat n d=true/\flats n ds=true:=by simpa [flats] using h
  simp only [pds,PyData.canLayAll0,Wf n d h'.1,Wz n ds h'.2,Bool.and_self]
end
mutual
theorem Wx:∀ (n:Nat) (d:D),flat n d=true->(pd d).depth<=n
 | _,.non,_=>by simp [pd,PyData.depth]
 | _,.bl _,_=>by simp [pd,PyData.depth]
 | _,.int _,_=>by simp [pd,PyData.depth]
 | _,.str x,h=>by simp [pd,PyData.depth]
 | n + 1,.tup ds,h=>by simp only [pd,PyData.depth]; have:=Z8 n ds (by simpa [flat] using h); omega
 | n + 1,.lst ds,h=>by simp only [pd,PyData.depth]; have:=Z8 n ds (by simpa [flat] using h); omega
 | 0,.tup _,h=>by simp [flat] at h
 | 0,.lst _,h=>by simp [flat] at h
 | _,.ro _,h=>by simp [flat] at h
 | _,.loc _,h=>by simp [flat] at h
 | _,.dic _ _,h=>by simp [flat] at h
 | _,.fdc _ _,h=>by simp [flat] at h
theorem Z8:∀ (n:Nat) (ds:List D),flats n ds=true->PyData.depthAll (pds ds)<=n
 | _,[],_=>by simp [pds,PyData.depthAll]
 | n,d :: ds,h=>by
  have h':flat n d=true/\flats n ds=true:=by simpa [flats] using h
  simp only [pds,PyData.depthAll]
  have h1:=Wx n d h'.1
  have h2:=Z8 n ds h'.2
  omega
end
theorem Za3 (x y:List Nat):((⟨x.toArray⟩:Str) == ⟨y.toArray⟩)=(x == y):=by
 by_cases h:x=y
 ·subst h; simp
 ·have h1:¬ (⟨x.toArray⟩:Str)=⟨y.toArray⟩:=fun e=>h (by injection e with e; simpa using congrArg Array.toList e)
  rw [beq_eq_false_iff_ne.mpr h1,beq_eq_false_iff_ne.mpr h]
mutual
theorem Y0:∀ (n m:Nat) (d e:D),flat n d=true->flat m e=true->PyData.eqv (pd d) (pd e)=eqD d e
 | _,_,.non,e,_,he=>by cases e <;> simp_all [pd,PyData.eqv,eqD,flat]
 | _,_,.bl a,e,_,he=>by cases e <;> simp_all [pd,PyData.eqv,eqD,flat,b2i]
 | _,_,.int i,e,_,he=>by cases e <;> simp_all [pd,PyData.eqv,eqD,flat,b2i]
 | _,_,.str x,e,_,he=>by cases e <;> simp_all [pd,PyData.eqv,eqD,flat,Za3]
 | n + 1,m,.tup ds,e,hd,he=>by
  cases e with
  | tup es =>
   cases m with
   | zero=>simp [flat] at he
   | succ m =>
    simp only [pd,PyData.eqv,eqD]
    exact Yax n m ds es (by simpa [flat] using hd) (by simpa [flat] using he)
  | _=>simp_all [pd,PyData.eqv,eqD,flat]
 | n + 1,m,.lst ds,e,hd,he=>by
  cases e with
  | lst es =>
   cases m with
   | zero=>simp [flat] at he
   | succ m =>
    simp only [pd,PyData.eqv,eqD]
    exact Yax n m ds es (by simpa [flat] using hd) (by simpa [flat] using he)
  | _=>simp_all [pd,PyData.eqv,eqD,flat]
 | 0,_,.tup _,_,h,_=>by simp [flat] at h
 | 0,_,.lst _,_,h,_=>by simp [flat] at h
 | _,_,.ro _,_,h,_=>by simp [flat] at h
 | _,_,.loc _,_,h,_=>by simp [flat] at h
 | _,_,.dic _ _,_,h,_=>by simp [flat] at h
 | _,_,.fdc _ _,_,h,_=>by simp [flat] at h
theorem Yax:∀ (n m:Nat) (ds es:List D),flats n ds=true->flats m es=true->PyData.eqvAll (pds ds) (pds es)=eqDs ds es
 | _,_,[],es,_,_=>by cases es <;> simp [pds,PyData.eqvAll,eqDs]
 | n,m,d :: ds,es,hd,he=>by
  cases es with
  | nil=>simp [pds,PyData.eqvAll,eqDs]
  | cons e es =>
   have hd':flat n d=true/\flats n ds=true:=by simpa [flats] using hd
   have he':flat m e=true/\flats m es=true:=by simpa [flats] using he
   simp only [pds,PyData.eqvAll,eqDs]
   rw [Y0 n m d e hd'.1 he'.1,Yax n m ds es hd'.2 he'.2]
end
section
variable {X:Cx} {pins:List (Addr×Obj)} {σ:L2.St} {H:Hp} {s:Shared} {θ:List Addr} {μ:Mem}
mutual
theorem Ve (I:Inv X pins σ H s):∀ (n:Nat) (d:D) (v:V) (u:Value),Rp X.K H θ μ d v->RelV v u->flat n d=true->∃ as,Reads s.heap u (pd d) as
 | _,.non,v,u,r,ru,_=>by cases Xj r; cases ru; exact ⟨_,by unfold pd; exact .none⟩
 | _,.bl b,v,u,r,ru,_=>by cases Vf r; cases ru; exact ⟨_,by unfold pd; exact .bool b⟩
 | _,.int i,v,u,r,ru,_=>by cases Yb r; obtain ⟨t,rfl⟩:=ru; exact ⟨_,by unfold pd; exact .int i t⟩
 | _,.str x,v,u,r,ru,_=>by cases (Zd r).1; obtain ⟨t,rfl⟩:=ru; exact ⟨_,by unfold pd; exact .str _ t⟩
 | n + 1,.tup ds,v,u,r,ru,h=>by
  obtain ⟨a,xs,rfl,hH,_,rs⟩:=Ze r
  cases ru
  obtain ⟨its,rv,⟨o,ho,hc,k,hd⟩,_⟩:=I.tuple (SqT.of hH)
  obtain ⟨as,ra⟩:=Wu I n ds xs its rs rv (by simpa [flat] using h)
  exact ⟨as,by unfold pd; exact .tuple ho hc hd (by simpa using ra)⟩
 | n + 1,.lst ds,v,u,r,ru,h=>by
  obtain ⟨a,xs,rfl,hH,_,rs⟩:=Yg r
  cases ru
  obtain ⟨its,rv,⟨o,k,ho,hc,_,hd⟩,_⟩:=I.list (SqL.of hH)
  obtain ⟨as,ra⟩:=Wu I n ds xs its rs rv (by simpa [flat] using h)
  exact ⟨a :: as,by unfold pd; exact .list ho hc hd (by simpa using ra)⟩
 | 0,.tup _,_,_,_,_,h=>by simp [flat] at h
 | 0,.lst _,_,_,_,_,h=>by simp [flat] at h
 | _,.ro _,_,_,_,_,h=>by simp [flat] at h
 | _,.loc _,_,_,_,_,h=>by simp [flat] at h
 | _,.dic _ _,_,_,_,_,h=>by simp [flat] at h
 | _,.fdc _ _,_,_,_,_,h=>by simp [flat] at h
theorem Wu (I:Inv X pins σ H s):∀ (n:Nat) (ds:List D) (vs:List V) (us:List Value),Rps X.K H θ μ ds vs->Vals vs us->flats n ds=true->∃ as,ReadsAll s.heap us (pds ds) as
 | _,[],vs,us,r,rv,_=>by cases r.nil_inv; cases rv; exact ⟨_,by unfold pds; exact .nil⟩
 | n,d :: ds,vs,us,r,rv,h=>by
  obtain ⟨v,vr,rfl,h1,h2⟩:=r.cons_inv
  have h':flat n d=true/\flats n ds=true:=by simpa [flats] using h
  cases rv with
  | cons ru rr =>
   obtain ⟨as,ra⟩:=Ve I n d v _ h1 ru h'.1
   obtain ⟨bs,rb⟩:=Wu I n ds vr _ h2 rr h'.2
   exact ⟨as ++ bs,by unfold pds; exact .cons ra rb⟩
end
end
theorem Xah:∀ (x y:List Nat),ltCs x y=decide (x < y)
 | [],[]=>by simp [ltCs]
 | [],_ :: _=>by simp [ltCs]
 | _ :: _,[]=>by simp [ltCs]
 | a :: x,b :: y=>by
  unfold ltCs
  by_cases h:a=b
  ·subst h
   rw [if_pos rfl,Xah x y]
   simp [List.cons_lt_cons_iff]
  ·rw [if_neg h]
   simp [List.cons_lt_cons_iff,h]
noncomputable def SV (u:Value) (d:D):Prop:=(∃ i t,u = .int i t/\d = .int i)∨∃ x t,u = .str ⟨x.toArray⟩ t/\d = .str x
noncomputable abbrev SVs:List Value->List D->Prop:=Paired SV
theorem sv_eq {A:Around} {s:Shared} {u v:Value} {d e:D} (h:SV u d) (k:SV v e):SeqAt.EqAt A s u v (eqD d e):=by
 rcases h with ⟨i,t,rfl,rfl⟩ | ⟨x,t,rfl,rfl⟩
 ·rcases k with ⟨j,t',rfl,rfl⟩ | ⟨y,t',rfl,rfl⟩
  ·simp only [eqD]; exact SeqAt.EqAt.int_int i t j t'
  ·simp only [eqD]; exact SeqAt.EqAt.int_str i t _ t'
 ·rcases k with ⟨j,t',rfl,rfl⟩ | ⟨y,t',rfl,rfl⟩
  ·simp only [eqD]; exact SeqAt.EqAt.str_int _ t j t'
  ·simp only [eqD]; rw [<- Za3]; exact SeqAt.EqAt.str_str _ t _ t'
theorem sv_lt {A:Around} {s:Shared} {u v:Value} {d e:D} {b:Bool} (h:SV u d) (k:SV v e) (hb:ltD d e=some b) (prog:Program) (w:World) (E:Value->Shared->Prop) (Q:Value->Shared->Prop) (q:Q (.bool b) s) :
  wpAny (model prog w) A (richCompare .Lt u v) Q E s:=by
 rcases h with ⟨i,t,rfl,rfl⟩ | ⟨x,t,rfl,rfl⟩
 ·rcases k with ⟨j,t',rfl,rfl⟩ | ⟨y,t',rfl,rfl⟩
  ·simp only [ltD,Option.some.injEq] at hb
   subst hb
   exact (PyProof.Rows.lt_int q:wpAny (model prog w) A (compareOp .Lt (.int i t) (.int j t')) Q E s)
  ·simp [ltD] at hb
 ·rcases k with ⟨j,t',rfl,rfl⟩ | ⟨y,t',rfl,rfl⟩
  ·simp [ltD] at hb
  ·simp only [ltD,Option.some.injEq] at hb
   subst hb
   rw [Xah] at q
   exact (PySem.P.lt_str (by simpa using q):wpAny (model prog w) A (compareOp .Lt (.str ⟨x.toArray⟩ t) (.str ⟨y.toArray⟩ t')) Q E s)
section
open PySem.SeqAt
open PySem.AutoSeq1 (wpAny_loadPart')
open PySem.MeetsSeq PySem.MeetsSeq2 PySem.MeetsSeq3
theorem Vbq (d e:D) (ds es:List D):ltDs (d :: ds) (e :: es)=if eqD d e then ltDs ds es else ltD d e:=by rw [ltDs]
theorem Xas (l b:Addr) (items items2:Array Value) (n n2:Nat) (dd dd2:Option Addr) (sl sl2:Array (Option Value)) (ns ms:List D) (r:Bool) (hi:SVs items.toList ns) (hj:SVs items2.toList ms) (hr:ltDs ns ms=some r) :
  Meets (Builtin.«tuple.__lt__» ⟨[.ref l,.ref b],[]⟩)
   (fun _ R s=>s.heap.get? l=some { cls:=.type "tuple",dict:=dd,data:=.seq items n,slots:=sl }/\s.heap.get? b=some { cls:=.type "tuple",dict:=dd2,data:=.seq items2 n2,slots:=sl2 } /\
    R (.ok (.ret (.bool r))) s) :=
 .of_wp fun prog w A R s h=>by
  obtain ⟨hp,g,d,tk,os⟩:=s; obtain ⟨hl,hb,h⟩:=h
  have f2:=AutoSeq1.sub_tuple_tuple
  have z1:items.size=ns.length:=by rw [<- Paired.length hi]; simp
  have z2:items2.size=ms.length:=by rw [<- Paired.length hj]; simp
  wp_walk using wpAny_loadPart' hl,wpAny_loadPart' hb,wpAny_forIn_list _ (fun rest b s'=>b.1=none/\s'=⟨hp,g,d,tk,os⟩/\∃ (vs ws:List Value) (ns' ms':List D),rest=vs.zip ws /\
   SVs vs ns'/\SVs ws ms'/\ns'.length + items2.size=ms'.length + items.size/\ltDs ns' ms'=some r) _
  case turn =>
   rintro ⟨y,x⟩ rest b s' ⟨hb',rfl,vs,ws,ns',ms',hz,hvi,hwi,hlen,hR⟩
   cases hvi with
   | nil=>rw [List.zip_nil_left] at hz; cases hz
   | @cons u du vs' ns'' hu hvi' =>
    cases hwi with
    | nil=>rw [List.zip_nil_right] at hz; cases hz
    | @cons v dv ws' ms'' hv hwi' =>
     rw [List.zip_cons_cons] at hz
     injection hz with hyx hrest
     injection hyx with hy hx
     subst hy hx
     rw [Vbq] at hR
     simp only [List.length_cons] at hlen
     have he:=sv_eq (A:=A.in1) (s:=⟨hp,g,d,tk,os⟩) hu hv
     refine wpAny_bind (he prog w _ _ ?_)
     cases e:eqD du dv with
     | true =>
      rw [e,if_pos rfl] at hR
      wp_walk
      exact ⟨rfl,rfl,_,_,_,_,hrest,hvi',hwi',by omega,hR⟩
     | false =>
      rw [e,if_neg Bool.false_ne_true] at hR
      have hri:=sv_lt (A:=A.in1) (s:=⟨hp,g,d,tk,os⟩) hu hv hR prog w
      wp_walk using hri
      exact ⟨_,rfl,by simpa using h⟩
  case fin =>
   rintro ⟨b1,b2⟩ s' ⟨hb',rfl,vs,ws,ns',ms',hz,hvi,hwi,hlen,hR⟩
   simp only at hb'
   subst hb'
   have hv:r=decide (items.size < items2.size):=by
    cases hvi with
    | nil =>
     cases hwi with
     | nil =>
      simp only [List.length_nil] at hlen
      simp [ltDs] at hR
      rw [hR]
      exact (decide_eq_false (by omega)).symm
     | cons hu hw =>
      simp only [List.length_nil,List.length_cons] at hlen
      simp [ltDs] at hR
      rw [hR]
      exact (decide_eq_true (by omega)).symm
    | cons hu hv =>
     cases hwi with
     | nil =>
      simp only [List.length_nil,List.length_cons] at hlen
      simp [ltDs] at hR
      rw [hR]
      exact (decide_eq_false (by omega)).symm
     | cons hu' hw =>
      rw [List.zip_cons_cons] at hz
      cases hz
   rw [hv] at h
   wp_walk
   exact ⟨_,rfl,by simpa [Builtin.Tuple.tupleCompareSizes] using h⟩
  case h =>
   exact ⟨rfl,rfl,items.toList,items2.toList,ns,ms,rfl,hi,hj,by omega,hr⟩
end
theorem Zcg {prog:Program} {w:World} {A:Around} {E:Value->Shared->Prop} {s:Shared} {l b:Addr} {items items2:Array Value} {ns ms:List D} {r:Bool} {Q:Value->Shared->Prop} (hl:IsTup s.heap l items) (hb:IsTup s.heap b items2) (hi:SVs items.toList ns) (hj:SVs items2.toList ms)
  (hr:ltDs ns ms=some r) (hu:A.units < cLine) (h:Q (.bool r) s):wpAny (model prog w) A (compareOp .Lt (.ref l) (.ref b)) Q E s:=by
 obtain ⟨⟨cls,dd,data,sl⟩,ho,hc,n,hd⟩:=id hl
 obtain ⟨⟨cls2,dd2,data2,sl2⟩,ho2,hc2,n2,hd2⟩:=id hb
 simp only at hc hd hc2 hd2
 subst hc hd hc2 hd2
 exact richCompare_meets_room (op:=.Lt) ⟨_,ho,rfl⟩ ⟨_,ho2,rfl⟩ PySem.F.slot_tuple_lt PySem.F.entry_tuple_lt (PySem.F.args_tuple_lt_2 _ _) (Xas l b items items2 n n2 dd dd2 sl sl2 ns ms r hi hj hr)
  ⟨ho,ho2,show Value.bool r≠Value.notImplemented/\Q (.bool r) s from ⟨(fun x=>nomatch x),h⟩⟩ hu
end DW
end
section
namespace DW
open PySem PySem.Spec PyProof.Rows L2
theorem Vm {a b:DKey} (h:keyOf a=keyOf b):a=b:=by
 cases a with
 | inl i=>cases b with
  | inl j=>simp only [keyOf,Sum.inl.injEq] at h; rw [h]
  | inr y=>cases h
 | inr x=>cases b with
  | inl j=>cases h
  | inr y =>
   simp only [keyOf,Sum.inr.injEq,Str.mk.injEq] at h
   have:x=y:=by simpa using congrArg Array.toList h
   rw [this]
section
variable {κ κ':Type} [DecidableEq κ] [DecidableEq κ']
theorem Wa4 (f:κ->κ') (inj:∀ a b,f a=f b->a=b) {ks:List κ} {kvs:List (κ'×V)} {k:κ} (h1:kvs.map (·.1)=ks.map f):(kvs.any fun kv=>decide (kv.1=f k))=true<->k∈ks:=by
 have e:(kvs.any fun kv=>decide (kv.1=f k))=(kvs.map (·.1)).any fun q=>decide (q=f k):=by rw [List.any_map]; rfl
 rw [e,h1,List.any_eq_true]
 constructor
 ·rintro ⟨q,hq,e⟩
  obtain ⟨k',hk,rfl⟩:=List.mem_map.mp hq
  have:=inj _ _ (of_decide_eq_true e)
  subst this
  exact hk
 ·intro hk
  exact ⟨f k,List.mem_map.mpr ⟨k,hk,rfl⟩,by simp⟩
end
section
variable {K:PySem.W.Frag} {H:Hp} {θ:List Addr} {μ:Mem}
theorem Y6 {d:D} {k:DKey} {v:V} (h:keyD d=some k) (r:Rp K H θ μ d v):v=kV (keyOf k):=by
 cases d with
 | int i=>simp only [keyD,Option.some.injEq] at h; subst h; exact Yb r
 | str x=>simp only [keyD,Option.some.injEq] at h; subst h; exact (Zd r).1
 | _=>simp [keyD] at h
theorem in_dict {neg:Bool} {d e:D} {x y:V} {Qd:QD} (wk:WOk K H θ μ) (rd:Rp K H θ μ d x) (re:Rp K H θ μ e y) (h:wInD neg d e μ Qd):∃ a o,y = .ref a/\DGet H a x o/\Qd (.bl (neg != o.isSome)) μ:=by
 unfold wInD at h
 split at h
 ·rename_i n
  obtain ⟨a,rfl,ha⟩:=Xc re
  split at h
  ·rename_i ks ds hn
   obtain ⟨kvs,e1,e2,e3⟩:=wk.cell n _ a hn ha
   split at h
   ·rename_i k hk
    refine ⟨a,valV kvs (keyOf k),rfl,by rw [Y6 hk rd]; exact DGet.k e1,?_⟩
    have z:(valV kvs (keyOf k)).isSome=hasK ks k:=by
     rw [<- Yaf,Bool.eq_iff_iff,Wa4 keyOf (fun _ _=>Vm) e2,Va5]
    rw [z]; exact h
   ·exact h.elim
  ·exact h.elim
 ·exact h.elim
theorem len_dict {d:D} {v:V} {Qd:QD} (wk:WOk K H θ μ) (rd:Rp K H θ μ d v) (h:Xbh d μ Qd):∃ a kvs,v = .ref a/\H a=some (.dK kvs)/\Qd (.int kvs.length) μ:=by
 unfold Xbh at h
 split at h
 ·rename_i n
  obtain ⟨a,rfl,ha⟩:=Xc rd
  split at h
  ·rename_i ks ds hn
   obtain ⟨kvs,e1,e2,e3⟩:=wk.cell n _ a hn ha
   have l:kvs.length=ks.length:=by have:=congrArg List.length e2; simpa using this
   exact ⟨a,kvs,rfl,e1,by rw [l]; exact h⟩
  ·exact h.elim
 ·exact h.elim
end
end DW
end
section
namespace DW
open PySem PySem.Spec PyProof.Rows L2
end DW
end
section
namespace DW
open PySem PySem.Spec PyProof.Rows L2
section
variable {X:Cx}
theorem sv_of {H:Hp} {θ:List Addr} {μ:Mem} {d e:D} {v:V} {u:Value} {b:Bool} (r:Rp X.K H θ μ d v) (ru:RelV v u) (h:(∃ i,d = .int i)∨∃ x,d = .str x):SV u d:=by
 rcases h with ⟨i,rfl⟩ | ⟨x,rfl⟩
 ·cases Yb r; obtain ⟨t,rfl⟩:=ru; exact .inl ⟨i,t,rfl,rfl⟩
 ·cases (Zd r).1; obtain ⟨t,rfl⟩:=ru; exact .inr ⟨x,t,rfl,rfl⟩
theorem Xbm {d:D} (h:sc2 d=true):(∃ i,d = .int i)∨∃ x,d = .str x:=by
 cases d <;> simp [sc2] at h
 ·exact .inl ⟨_,rfl⟩
 ·exact .inr ⟨_,rfl⟩
theorem Xbk {H:Hp} {θ:List Addr} {μ:Mem}:∀ {ds:List D} {vs:List V} {us:List Value},Rps X.K H θ μ ds vs->Vals vs us->ds.all sc2=true->SVs us ds
 | [],vs,us,r,rv,_=>by cases r.nil_inv; cases rv; exact .nil
 | d :: ds,vs,us,r,rv,h=>by
  obtain ⟨v,vr,rfl,h1,h2⟩:=r.cons_inv
  simp only [List.all_cons,Bool.and_eq_true] at h
  cases rv with
  | cons ru rr=>exact .cons (sv_of (e:=.non) (b:=true) h1 ru (Xbm h.1)) (Xbk h2 rr h.2)
theorem nonV {K:PySem.W.Frag} {H:Hp} {θ:List Addr} {μ:Mem} {d:D} {x:V} (r:Rp K H θ μ d x):decide (x = .non)=Wbt d:=by
 cases d with
 | non=>cases Xj r; rfl
 | bl b=>cases Vf r; rfl
 | int b=>cases Yb r; rfl
 | str b=>cases (Zd r).1; rfl
 | tup ds=>obtain ⟨a,xs,rfl,_⟩:=Ze r; rfl
 | lst ds=>obtain ⟨a,xs,rfl,_⟩:=Yg r; rfl
 | ro ds=>obtain ⟨a,xs,rfl,_⟩:=Za5 r; rfl
 | loc n=>obtain ⟨a,rfl,_⟩:=Xc r; rfl
 | dic ks ds=>obtain ⟨a,xs,rfl,_⟩:=V6 r; rfl
 | fdc ks ds=>obtain ⟨a,o,xs,rfl,_⟩:=inv_fdc r; rfl
noncomputable def X6 (its:List Value) (ds:List D) (x:D) (y:Value):Bool:=open Classical in if h:∃ j:Nat,its[j]? = some y then (match ds[h.choose]? with | some d=>eqD d x | none=>false) else false
theorem Xa5 {pins:List (Addr×Obj)} {σ:L2.St} {H:Hp} {s:Shared} {θ:List Addr} {μ:Mem} {d e:D} {x y:V} {v u:Value} {ds:List D} (I:Inv X pins σ H s) (wk:WOk X.K H θ μ) (re:Rp X.K H θ μ e y) (ry:RelV y u) (hq:Zb μ e=some ds)
  (f1:flats 60 ds=true) (f2:flat 60 d=true) (rd:Rp X.K H θ μ d x) (rx:RelV x v) (hu:X.A.units + 64 < cLine) :
  ∃ (its:List Value) (a:Addr),u = .ref a/\(s.heap.IsList a its.toArray∨s.heap.IsTuple a its.toArray)/\(∀ w∈its.toArray,SeqAt.EqAt X.A.in1 s w v (X6 its ds d w))/\its.toArray.any (X6 its ds d)=ds.any fun d'=>eqD d' d:=by
 obtain ⟨a,xs,rfl,hs,rs⟩:=Zk wk re hq
 cases ry
 obtain ⟨its,rv,hl⟩:∃ its:List Value,Vals xs its/\(s.heap.IsList a its.toArray∨s.heap.IsTuple a its.toArray):=by
  rcases hs with h | h
  ·obtain ⟨its,rv,p,_⟩:=I.list h
   exact ⟨its,rv,.inl p.isList⟩
  ·obtain ⟨its,rv,p,_⟩:=I.tuple h
   exact ⟨its,rv,.inr p⟩
 obtain ⟨as0,ra0⟩:=Ve I 60 d x v rd rx f2
 have fl:∀ (n:Nat) (l:List D),flats n l=true->∀ (j:Nat) (e:D),l[j]? = some e->flat n e=true:=by
  intro n l
  induction l with
  | nil=>intro _ j e h; simp at h
  | cons c l ih =>
   intro h j e he
   have h':flat n c=true/\flats n l=true:=by simpa [flats] using h
   cases j with
   | zero=>simp at he; subst he; exact h'.1
   | succ j=>exact ih h'.2 j e (by simpa using he)
 have at_:∀ (j:Nat) (w:Value),its[j]? = some w->∃ (e:D) (as:List Addr),ds[j]? = some e/\Reads s.heap w (pd e) as/\flat 60 e=true:=by
  intro j w hw
  have hj:j < its.length:=(List.getElem?_eq_some_iff.mp hw).1
  have hj2:j < ds.length:=by rw [rs.length,rv.length]; exact hj
  have he:ds[j]? = some ds[j]:=List.getElem?_eq_getElem hj2
  obtain ⟨z,z1,z2⟩:=rs.get he
  obtain ⟨w',w1,w2⟩:=rv.get z1
  rw [hw] at w1; cases w1
  obtain ⟨as,ra⟩:=Ve I 60 ds[j] z w z2 w2 (fl 60 ds f1 j _ he)
  exact ⟨ds[j],as,he,ra,fl 60 ds f1 j _ he⟩
 have val:∀ (j:Nat) (w:Value) (e:D),its[j]? = some w->ds[j]? = some e->X6 its ds d w=eqD e d:=by
  intro j w e hw he
  have hx:∃ j:Nat,its[j]? = some w:=⟨j,hw⟩
  unfold X6
  rw [dif_pos hx]
  obtain ⟨e1,as1,g1,g2,g3⟩:=at_ _ w hx.choose_spec
  obtain ⟨e2,as2,k1,k2,k3⟩:=at_ j w hw
  rw [he] at k1; cases k1
  rw [g1]
  have un:=SeqAt.Reads.unique (pd e1) (pd e) _ _ _ (Wf _ _ g3) g2 k2
  show eqD e1 d=eqD e d
  rw [<- Y0 60 60 e1 d g3 f2,<- Y0 60 60 e d k3 f2,un]
 refine ⟨its,a,rfl,hl,fun w hw=>?_,?_⟩
 ·obtain ⟨j,hj⟩:=List.getElem?_of_mem (show w∈its by simpa using hw)
  obtain ⟨e,as,k1,k2,k3⟩:=at_ j w hj
  rw [val j w e hj k1,<- Y0 60 60 e d k3 f2]
  have hd:=Wx _ _ f2
  exact SeqAt.eqAt_reads (pd e) (pd d) X.A.in1 s w v as as0 k2 ra0 (Wf _ _ k3) (Wf _ _ f2) (by show X.A.units + 1 + _ < cLine; omega)
 ·have key:∀ (js:List Nat),(∀ j∈js,j < its.length)->(js.any fun j=>(its[j]?.map (X6 its ds d)).getD false)=js.any fun j=>(ds[j]?.map fun d'=>eqD d' d).getD false:=by
   intro js
   induction js with
   | nil=>intro _; rfl
   | cons j js ih =>
    intro h
    have hj:=h j (by simp)
    have hj2:j < ds.length:=by rw [rs.length,rv.length]; exact hj
    rw [List.any_cons,List.any_cons,ih fun i hi=>h i (by simp [hi])]
    congr 1
    rw [List.getElem?_eq_getElem hj,List.getElem?_eq_getElem hj2]
    exact val j _ _ (List.getElem?_eq_getElem hj) (List.getElem?_eq_getElem hj2)
  have hlen:its.length=ds.length:=by rw [rs.length,rv.length]
  have all:∀ {α:Type} (l:List α) (p:α->Bool),l.any p=(List.range l.length).any fun j=>(l[j]?.map p).getD false:=by
   intro α l p
   rw [Bool.eq_iff_iff,List.any_eq_true,List.any_eq_true]
   constructor
   ·rintro ⟨z,hz,hp⟩
    obtain ⟨j,hj⟩:=List.getElem?_of_mem hz
    have:=(List.getElem?_eq_some_iff.mp hj).1
    exact ⟨j,by simpa using this,by rw [hj]; simpa using hp⟩
   ·rintro ⟨j,hj,hp⟩
    have hj':j < l.length:=by simpa using hj
    rw [List.getElem?_eq_getElem hj'] at hp
    exact ⟨l[j],List.getElem_mem hj',by simpa using hp⟩
  rw [List.any_toArray,all its,all ds,hlen]
  exact key _ fun j hj=>by rw [hlen]; simpa using hj
theorem Wae {k:Nat} (hr:Room k X.A) (op:CmpOp):OpR X (compareOp op) (low2 X.K (wCmp op)):=by
 intro pins s σ H x y v u Q I rx ry h
 obtain ⟨d,e,θ,μ,Qd,wk,rd,re,hw,f⟩:=h
 have hu:X.A.units + 64 < cLine:=hr.units
 have bl:∀ {b:Bool} {s':Shared},Inv X pins σ H s'->Qd (.bl b) μ->EP X pins σ Q (.bool b) s':=fun I' q=>⟨.bl _,H,I',rfl,f.at wk Zi q⟩
 cases op with
 | Eq =>
  obtain ⟨f1,f2,q⟩:=hw
  obtain ⟨as,ra⟩:=Ve I 60 d x v rd rx f1
  obtain ⟨bs,rb⟩:=Ve I 60 e y u re ry f2
  refine SeqAt.compareEq_reads ra rb (Wf _ _ f1) (Wf _ _ f2) ?_ ?_
  ·have:=Wx _ _ f1
   omega
  ·rw [Y0 _ _ _ _ f1 f2]; exact bl I q
 | NotEq =>
  by_cases hd:∃ n,d = .loc n
  ·obtain ⟨n,rfl⟩:=hd
   have hw:wNeE n e μ Qd:=hw
   unfold wNeE at hw
   split at hw
   ·rename_i ds hn
    split at hw
    ·obtain ⟨a,rfl,ha⟩:=Xc rd
     cases rx
     obtain ⟨xs,hx,rs⟩:=wk.list hn ha
     obtain ⟨its,vi,pl,hz⟩:=I.list (SqL.of hx)
     obtain ⟨b,ys,rfl,hy,_,r2⟩:=Yg re
     cases ry
     cases r2.nil_inv
     obtain ⟨its2,vi2,pl2,hz2⟩:=I.list (SqL.of hy)
     have e2:its2=[]:=List.length_eq_zero_iff.mp vi2.length.symm
     subst e2
     have l1:its.length=ds.length:=by rw [<- vi.length,<- rs.length]
     cases ds with
     | nil =>
      have e1:its=[]:=List.length_eq_zero_iff.mp (by rw [l1]; rfl)
      subst e1
      exact SeqAt.RcNeAt.lists (e:=fun _=>true) pl.isList pl2.isList rfl (by omega) (fun j h1 h2=>absurd h1 (by simp)) _ _ _ _ (bl I hw)
     | cons d0 ds =>
      exact SeqAt.RcNeAt.lists_lengths pl.isList pl2.isList (by simp at l1 ⊢; rw [<- List.length_eq_zero_iff,l1]; simp) (by omega) _ _ _ _ (bl I hw)
    ·exact hw.elim
   ·exact hw.elim
  have hw:flat 60 d=true/\flat 60 e=true/\Qd (.bl (!eqD d e)) μ:=by
   cases d with
   | loc n=>exact absurd ⟨n,rfl⟩ hd
   | _=>exact hw
  obtain ⟨f1,f2,q⟩:=hw
  obtain ⟨as,ra⟩:=Ve I 60 d x v rd rx f1
  obtain ⟨bs,rb⟩:=Ve I 60 e y u re ry f2
  refine SeqAt.compareNe_reads ra rb (Wf _ _ f1) (Wf _ _ f2) ?_ ?_
  ·have:=Wx _ _ f1
   omega
  ·rw [Y0 _ _ _ _ f1 f2]; exact bl I q
 | Lt =>
  simp only [wCmp] at hw
  cases d with
  | int i =>
   cases e with
   | int j=>simp only [ltD] at hw; exact op_lt pins s σ H x y v u Q I rx ry ⟨i,j,Yb rd,Yb re,f.at wk Zi hw⟩
   | _=>simp [ltD] at hw
  | str a =>
   cases e with
   | str b =>
    simp only [ltD] at hw
    refine Ybp pins s σ H x y v u Q I rx ry ⟨_,_,(Zd rd).1,(Zd re).1,f.at wk Zi ?_⟩
    rw [Xah] at hw
    simpa using hw
   | _=>simp [ltD] at hw
  | tup ds =>
   cases e with
   | tup es =>
    simp only [ltD] at hw
    split at hw
    ·rename_i r hl
     split at hl
     ·rename_i hsc
      rw [Bool.and_eq_true] at hsc
      obtain ⟨a,xs,rfl,h1,_,r1⟩:=Ze rd
      obtain ⟨b,ys,rfl,h2,_,r2⟩:=Ze re
      cases rx; cases ry
      obtain ⟨its,rv1,p1,_⟩:=I.tuple (SqT.of h1)
      obtain ⟨jts,rv2,p2,_⟩:=I.tuple (SqT.of h2)
      exact Zcg p1 p2 (by simpa using Xbk r1 rv1 hsc.1) (by simpa using Xbk r2 rv2 hsc.2) hl (by omega) (bl I hw)
     ·cases hl
    ·exact hw.elim
   | _=>simp [ltD] at hw
  | _=>simp [ltD] at hw
 | LtE =>
  cases d with
  | int i =>
   cases e with
   | int j=>exact op_le pins s σ H x y v u Q I rx ry ⟨i,j,Yb rd,Yb re,f.at wk Zi hw⟩
   | _=>exact hw.elim
  | str a =>
   cases e with
   | str b =>
    have hw:Qd (.bl (!ltCs b a)) μ:=hw
    cases (Zd rd).1
    cases (Zd re).1
    obtain ⟨t,rfl⟩:=rx
    obtain ⟨t',rfl⟩:=ry
    refine PySem.P.le_str ?_
    rw [Xah] at hw
    refine bl I ?_
    simpa using hw
   | _=>exact hw.elim
  | _=>exact hw.elim
 | Gt =>
  cases d with
  | int i =>
   cases e with
   | int j=>exact op_gt pins s σ H x y v u Q I rx ry ⟨i,j,Yb rd,Yb re,f.at wk Zi hw⟩
   | _=>exact hw.elim
  | _=>exact hw.elim
 | GtE =>
  cases d with
  | int i =>
   cases e with
   | int j=>exact op_ge pins s σ H x y v u Q I rx ry ⟨i,j,Yb rd,Yb re,f.at wk Zi hw⟩
   | _=>exact hw.elim
  | _=>exact hw.elim
 | Is =>
  cases e with
  | non =>
   refine op_isN pins s σ H x y v u Q I rx ry ⟨Xj re,f.at wk Zi ?_⟩
   have hw:Qd (.bl (Wbt d)) μ:=hw
   rw [nonV rd]; exact hw
  | bl b =>
   cases d with
   | bl a =>
    cases Vf rd; cases Vf re
    cases rx; cases ry
    exact is_bool (bl I hw)
   | _=>exact hw.elim
  | _=>exact hw.elim
 | IsNot =>
  cases e with
  | non =>
   refine op_notN pins s σ H x y v u Q I rx ry ⟨Xj re,f.at wk Zi ?_⟩
   have hw:Qd (.bl (!Wbt d)) μ:=hw
   rw [nonV rd]; exact hw
  | bl b =>
   cases d with
   | bl a =>
    cases Vf rd; cases Vf re
    cases rx; cases ry
    exact isnot_bool (bl I hw)
   | _=>exact hw.elim
  | _=>exact hw.elim
 | In =>
  have hw':(∃ t,e = .str t)∨(∃ ds,Zb μ e=some ds/\flats 60 ds=true/\flat 60 d=true/\Qd (.bl (ds.any fun d'=>eqD d' d)) μ)∨wInD false d e μ Qd:=by
   cases e with
   | str t=>exact .inl ⟨t,rfl⟩
   | _ =>
    right
    simp only [wCmp] at hw
    split at hw
    ·rename_i ds hq; exact .inl ⟨ds,hq,hw⟩
    ·exact .inr hw
  rcases hw' with ⟨t,rfl⟩ | ⟨ds,hq,f1,f2,q⟩ | hD
  ·cases d with
   | str a =>
    cases a with
    | nil=>exact hw.elim
    | cons c r =>
     cases r with
     | nil =>
      refine Xbp pins s σ H x y v u Q I rx ry ⟨_,_,(Zd rd).1,(Zd re).1,f.at wk Zi ?_⟩
      have q:Qd (.bl (t.contains c)) μ:=hw
      have q2:=StrLaws.found_one ⟨t.toArray⟩ c
      rw [show (⟨[c].toArray⟩:Str)=⟨#[c]⟩ from rfl,q2]
      simpa using q
     | cons _ _=>exact hw.elim
   | _=>exact hw.elim
  ·obtain ⟨its,a,e1,hsq,hany⟩:=Xa5 I wk re ry hq f1 f2 rd rx hu
   subst e1
   rcases hsq with hsq | hsq
   ·exact SeqAt.in_listAt _ hsq (fun y hy=>(hany.1 y hy)) (bl I (by rw [hany.2]; exact q))
   ·exact SeqAt.in_tupleAt _ hsq (fun y hy=>(hany.1 y hy)) (bl I (by rw [hany.2]; exact q))
  ·obtain ⟨a,o,rfl,g,q⟩:=in_dict wk rd re hD
   cases (show u=Value.ref a from ry)
   exact d_in (by omega) I g rx fun s' I'=>bl I' (by simpa using q)
 | NotIn =>
  have hw':(∃ t,e = .str t)∨(∃ ds,Zb μ e=some ds/\flats 60 ds=true/\flat 60 d=true/\Qd (.bl (!ds.any fun d'=>eqD d' d)) μ)∨wInD true d e μ Qd:=by
   cases e with
   | str t=>exact .inl ⟨t,rfl⟩
   | _ =>
    right
    simp only [wCmp] at hw
    split at hw
    ·rename_i ds hq; exact .inl ⟨ds,hq,hw⟩
    ·exact .inr hw
  rcases hw' with ⟨t,rfl⟩ | ⟨ds,hq,f1,f2,q⟩ | hD
  ·cases d with
   | str a =>
    cases a with
    | nil=>exact hw.elim
    | cons c r =>
     cases r with
     | nil =>
      refine Zan pins s σ H x y v u Q I rx ry ⟨_,_,(Zd rd).1,(Zd re).1,f.at wk Zi ?_⟩
      have q:Qd (.bl (!t.contains c)) μ:=hw
      have q2:=StrLaws.found_one ⟨t.toArray⟩ c
      rw [show (⟨[c].toArray⟩:Str)=⟨#[c]⟩ from rfl,q2]
      simpa using q
     | cons _ _=>exact hw.elim
   | _=>exact hw.elim
  ·obtain ⟨its,a,e1,hsq,hany⟩:=Xa5 I wk re ry hq f1 f2 rd rx hu
   subst e1
   rcases hsq with hsq | hsq
   ·exact SeqAt.notIn_listAt _ hsq (fun y hy=>(hany.1 y hy)) (bl I (by rw [hany.2]; exact q))
   ·exact SeqAt.notIn_tupleAt _ hsq (fun y hy=>(hany.1 y hy)) (bl I (by rw [hany.2]; exact q))
  ·obtain ⟨a,o,rfl,g,q⟩:=in_dict wk rd re hD
   cases (show u=Value.ref a from ry)
   exact d_notIn (by omega) I g rx fun s' I'=>bl I' (by simpa using q)
end
end DW
end
section
set_option maxHeartbeats 2000000
namespace DW
open PySem PySem.Spec PyProof.Rows L2
theorem allT (n:Nat):((List.range n).all fun _=>true)=true:=List.all_eq_true.mpr fun _ _=>rfl
section
variable {X:Cx} {pins:List (Addr×Obj)} {σ:L2.St} {H:Hp} {s:Shared} {θ:List Addr} {μ:Mem}
mutual
theorem eqSame (I:Inv X pins σ H s):∀ (n:Nat) (A:Around) (d:D) (v v':V) (u u':Value),Rp X.K H θ μ d v->RelV v u->Rp X.K H θ μ d v'->RelV v' u'->Xp n d=true->A.units + n < cLine->SeqAt.EqAt A s u u' true
 | _,A,.non,v,v',u,u',r,ru,r',ru',_,_=>by cases Xj r; cases Xj r'; cases ru; cases ru'; exact SeqAt.EqAt.same _
 | _,A,.bl b,v,v',u,u',r,ru,r',ru',_,_=>by cases Vf r; cases Vf r'; cases ru; cases ru'; exact SeqAt.EqAt.same _
 | _,A,.int i,v,v',u,u',r,ru,r',ru',_,_=>by
  cases Yb r; cases Yb r'; obtain ⟨t,rfl⟩:=ru; obtain ⟨t',rfl⟩:=ru'
  have:=SeqAt.EqAt.int_int (A:=A) (s:=s) i t i t'
  simpa using this
 | _,A,.str x,v,v',u,u',r,ru,r',ru',_,_=>by
  cases (Zd r).1; cases (Zd r').1; obtain ⟨t,rfl⟩:=ru; obtain ⟨t',rfl⟩:=ru'
  have:=SeqAt.EqAt.str_str (A:=A) (s:=s) ⟨x.toArray⟩ t ⟨x.toArray⟩ t'
  simpa using this
 | _,A,.loc k,v,v',u,u',r,ru,r',ru',_,_=>by
  obtain ⟨a,rfl,h1⟩:=Xc r
  obtain ⟨a',rfl,h2⟩:=Xc r'
  rw [h1] at h2; cases h2
  cases ru; cases ru'
  exact SeqAt.EqAt.same _
 | n + 1,A,.tup ds,v,v',u,u',r,ru,r',ru',h,hu=>by
  obtain ⟨a,xs,rfl,hH,_,rs⟩:=Ze r
  obtain ⟨a',xs',rfl,hH',_,rs'⟩:=Ze r'
  cases ru; cases ru'
  by_cases e:a=a'
  ·subst e; exact SeqAt.EqAt.same _
  ·obtain ⟨its,rv,t1,_⟩:=I.tuple (SqT.of hH)
   obtain ⟨its',rv',t2,_⟩:=I.tuple (SqT.of hH')
   have q:SeqAt.RcAt A s (.ref a) (.ref a') true:=by
    have l1:=rv.length
    have l2:=rv'.length
    have l3:=rs.length
    have l4:=rs'.length
    have z:=SeqAt.RcAt.tuples (A:=A) (s:=s) (e:=fun _=>true) (show s.heap.IsTuple a its.toArray from t1) (show s.heap.IsTuple a' its'.toArray from t2) (by omega) fun j j1 j2=>by
     have:=W7 I n A.in1 ds xs xs' its its' rs rv rs' rv' (by simpa [Xp] using h) (by show A.units + 1 + n < cLine; omega) j (by simpa using j1) (by simpa using j2)
     simpa using this
    have e2:its.length=its'.length:=by omega
    simpa [e2,allT] using z
   exact SeqAt.EqAt.of_refs e q
 | n + 1,A,.lst ds,v,v',u,u',r,ru,r',ru',h,hu=>by
  obtain ⟨a,xs,rfl,hH,_,rs⟩:=Yg r
  obtain ⟨a',xs',rfl,hH',_,rs'⟩:=Yg r'
  cases ru; cases ru'
  by_cases e:a=a'
  ·subst e; exact SeqAt.EqAt.same _
  ·obtain ⟨its,rv,t1,_⟩:=I.list (SqL.of hH)
   obtain ⟨its',rv',t2,_⟩:=I.list (SqL.of hH')
   have q:SeqAt.RcAt A s (.ref a) (.ref a') true:=by
    have l1:=rv.length
    have l2:=rv'.length
    have l3:=rs.length
    have l4:=rs'.length
    have z:=SeqAt.RcAt.lists (A:=A) (s:=s) (e:=fun _=>true) t1.isList t2.isList (by simp; omega) (by omega) fun j j1 j2=>by
     have:=W7 I n A.in1 ds xs xs' its its' rs rv rs' rv' (by simpa [Xp] using h) (by show A.units + 1 + n < cLine; omega) j (by simpa using j1) (by simpa using j2)
     simpa using this
    simpa [allT] using z
   exact SeqAt.EqAt.of_refs e q
 | 0,_,.tup _,_,_,_,_,_,_,_,_,h,_=>by simp [Xp] at h
 | 0,_,.lst _,_,_,_,_,_,_,_,_,h,_=>by simp [Xp] at h
 | _,_,.ro _,_,_,_,_,_,_,_,_,h,_=>by simp [Xp] at h
 | _,_,.dic _ _,_,_,_,_,_,_,_,_,h,_=>by simp [Xp] at h
 | _,_,.fdc _ _,_,_,_,_,_,_,_,_,h,_=>by simp [Xp] at h
theorem W7 (I:Inv X pins σ H s):∀ (n:Nat) (A:Around) (ds:List D) (vs vs':List V) (us us':List Value),Rps X.K H θ μ ds vs->Vals vs us->Rps X.K H θ μ ds vs'->Vals vs' us'->Yae n ds=true->A.units + n < cLine ->
  ∀ (j:Nat) (h1:j < us.length) (h2:j < us'.length),SeqAt.EqAt A s us[j] us'[j] true
 | _,_,[],vs,vs',us,us',r,rv,r',rv',_,_,j,h1,_=>by cases r.nil_inv; cases rv; simp at h1
 | n,A,d :: ds,vs,vs',us,us',r,rv,r',rv',h,hu,j,h1,h2=>by
  obtain ⟨v,vr,rfl,k1,k2⟩:=r.cons_inv
  obtain ⟨v',vr',rfl,k1',k2'⟩:=r'.cons_inv
  have h':Xp n d=true/\Yae n ds=true:=by simpa [Yae] using h
  cases rv with
  | cons ru rr =>
   cases rv' with
   | cons ru' rr' =>
    cases j with
    | zero=>exact eqSame I n A d v v' _ _ k1 ru k1' ru' h'.1 hu
    | succ j=>exact W7 I n A ds vr vr' _ _ k2 rr k2' rr' h'.2 hu j (by simpa using h1) (by simpa using h2)
end
theorem dict1 {a:Addr} {ks:List DKey} {ds:List D} {kvs:List (Key×V)} (I:Inv X pins σ H s) (hk:ks.length=1) (hd:ds.all sc2=true) (h:H a=some (.dK kvs)) (h1:kvs.map (·.1)=ks.map keyOf) (h2:Rps X.K H θ μ ds (kvs.map (·.2))) :
  (a == sysModules)=false/\∃ vs,s.heap.DictOf (Xe X.prog X.w) a vs/\∀ A:Around,PySem.W.KeqHits A s vs vs true:=by
 obtain ⟨_,hs,vs,kv,dd⟩:=(show ObjOk X.prog X.w H s.heap a (.dK kvs) from I.hok a _ h)
 refine ⟨hs,vs,dd,fun A=>?_⟩
 have hl:kvs.length=1:=by have:=congrArg List.length h1; simpa [hk] using this
 match kvs,hl with
 | [(k,x)],_ =>
  cases kv with
  | @cons p q ps qs hp t =>
   cases t
   obtain ⟨k2,u⟩:=q
   obtain ⟨e1,ru⟩:=hp
   have e1:k=k2:=e1
   subst e1
   obtain ⟨d,dr,e3,r1,r2⟩:∃ d dr,ds=d :: dr/\Rp X.K H θ μ d x/\dr=[]:=by
    cases ds with
    | nil=>have:=h2.length; simp at this
    | cons d dr =>
     obtain ⟨v,r,e,r1,r2⟩:=h2.cons_inv
     simp at e
     obtain ⟨rfl,rfl⟩:=e
     have:=r2.length
     exact ⟨d,dr,rfl,r1,List.length_eq_zero_iff.mp (by simpa using this)⟩
   subst r2 e3
   have hf:Xp 1 d=true:=by
    have:sc2 d=true:=by simpa using hd
    cases d <;> simp [sc2] at this <;> rfl
   have hit:PySem.W.KeqHits A s [(k,u)] [(k,u)] (true && true):=.hit (y:=u) (by simp [valueAt]) (SeqAt.EqAt.same u) .nil
   exact hit
theorem Wbm {k:Nat} (hr:Room k X.A) (neg:Bool):OpR X (compareOp (if neg then .NotEq else .Eq)) (low2 X.K (wSame neg)):=by
 intro pins s σ H x y v u Q I rx ry h
 obtain ⟨d,e,θ,μ,Qd,wk,rd,re,⟨rfl,ho,hq⟩,f⟩:=h
 have hu:X.A.units + 64 < cLine:=hr.units
 have bl:EP X pins σ Q (.bool (!neg)) s:=⟨.bl _,H,I,rfl,f.at wk Zi hq⟩
 unfold sameOk at ho
 cases d with
 | loc n =>
  obtain ⟨a,rfl,h1⟩:=Xc rd
  obtain ⟨a',rfl,h2⟩:=Xc re
  rw [h1] at h2; cases h2
  cases rx; cases ry
  simp only at ho
  split at ho
  ·rename_i ks ds hn
   simp only [Bool.and_eq_true,beq_iff_eq] at ho
   obtain ⟨kvs,k1,k2,k3⟩:=wk.cell n _ a hn h1
   obtain ⟨hs,vs,dd,hits⟩:=dict1 I ho.1 ho.2 k1 k2 k3
   cases neg with
   | true=>exact PySem.W.keq_ne hs hs dd dd (by omega) (fun _=>hits _) (by simpa using bl)
   | false=>exact PySem.W.keq_eq hs hs dd dd (by omega) (fun _=>hits _) (by simpa using bl)
  ·cases ho
 | tup ds =>
  obtain ⟨a,xs,rfl,hH,_,rs⟩:=Ze rd
  obtain ⟨a',xs',rfl,hH',_,rs'⟩:=Ze re
  cases rx; cases ry
  obtain ⟨its,rv,t1,_⟩:=I.tuple (SqT.of hH)
  obtain ⟨its',rv',t2,_⟩:=I.tuple (SqT.of hH')
  have l1:=rv.length
  have l2:=rv'.length
  have l3:=rs.length
  have l4:=rs'.length
  have e2:its.length=its'.length:=by omega
  have el:∀ j (h1:j < its.toArray.size) (h2:j < its'.toArray.size),SeqAt.EqAt X.A.in1 s its.toArray[j] its'.toArray[j] true:=fun j j1 j2=>by
   have:=W7 I 59 X.A.in1 ds xs xs' its its' rs rv rs' rv' (by simpa [Xp] using ho) (by show X.A.units + 1 + 59 < cLine; omega) j (by simpa using j1) (by simpa using j2)
   simpa using this
  cases neg with
  | true =>
   refine SeqAt.RcNeAt.tuples (e:=fun _=>true) (show s.heap.IsTuple a its.toArray from t1) (show s.heap.IsTuple a' its'.toArray from t2) (by omega) el _ _ _ _ ?_
   simpa [e2,allT] using bl
  | false =>
   refine SeqAt.RcAt.tuples (e:=fun _=>true) (show s.heap.IsTuple a its.toArray from t1) (show s.heap.IsTuple a' its'.toArray from t2) (by omega) el _ _ _ _ ?_
   simpa [e2,allT] using bl
 | lst ds =>
  obtain ⟨a,xs,rfl,hH,_,rs⟩:=Yg rd
  obtain ⟨a',xs',rfl,hH',_,rs'⟩:=Yg re
  cases rx; cases ry
  obtain ⟨its,rv,t1,_⟩:=I.list (SqL.of hH)
  obtain ⟨its',rv',t2,_⟩:=I.list (SqL.of hH')
  have l1:=rv.length
  have l2:=rv'.length
  have l3:=rs.length
  have l4:=rs'.length
  have el:∀ j (h1:j < its.toArray.size) (h2:j < its'.toArray.size),SeqAt.EqAt X.A.in1 s its.toArray[j] its'.toArray[j] true:=fun j j1 j2=>by
   have:=W7 I 59 X.A.in1 ds xs xs' its its' rs rv rs' rv' (by simpa [Xp] using ho) (by show X.A.units + 1 + 59 < cLine; omega) j (by simpa using j1) (by simpa using j2)
   simpa using this
  cases neg with
  | true =>
   refine SeqAt.RcNeAt.lists (e:=fun _=>true) t1.isList t2.isList (by simp; omega) (by omega) el _ _ _ _ ?_
   simpa [allT] using bl
  | false =>
   refine SeqAt.RcAt.lists (e:=fun _=>true) t1.isList t2.isList (by simp; omega) (by omega) el _ _ _ _ ?_
   simpa [allT] using bl
 | ro ds=>simp [Xp] at ho
 | dic ks ds=>simp [Xp] at ho
 | fdc ks ds=>simp [Xp] at ho
 | str z =>
  cases (Zd rd).1; cases (Zd re).1
  cases neg with
  | true=>exact Zce pins s σ H _ _ v u Q I rx ry ⟨rfl,by simpa using f.at wk Zi hq⟩
  | false=>exact Xce pins s σ H _ _ v u Q I rx ry ⟨rfl,by simpa using f.at wk Zi hq⟩
 | non =>
  cases Xj rd; cases Xj re
  cases neg with
  | true=>exact Zce pins s σ H _ _ v u Q I rx ry ⟨rfl,by simpa using f.at wk Zi hq⟩
  | false=>exact Xce pins s σ H _ _ v u Q I rx ry ⟨rfl,by simpa using f.at wk Zi hq⟩
 | bl b =>
  cases Vf rd; cases Vf re
  cases neg with
  | true=>exact Zce pins s σ H _ _ v u Q I rx ry ⟨rfl,by simpa using f.at wk Zi hq⟩
  | false=>exact Xce pins s σ H _ _ v u Q I rx ry ⟨rfl,by simpa using f.at wk Zi hq⟩
 | int i =>
  cases Yb rd; cases Yb re
  cases neg with
  | true=>exact Zce pins s σ H _ _ v u Q I rx ry ⟨rfl,by simpa using f.at wk Zi hq⟩
  | false=>exact Xce pins s σ H _ _ v u Q I rx ry ⟨rfl,by simpa using f.at wk Zi hq⟩
theorem Zai {μ:Mem} {n m:Nat}:∀ (ds:List D),flats m (ds.map (thaw μ n))=true->∀ d∈ds,flat m (thaw μ n d)=true
 | [],_,d,h=>by simp at h
 | e :: ds,h,d,hd=>by
  have h':flat m (thaw μ n e)=true/\flats m (ds.map (thaw μ n))=true:=by simpa [flats] using h
  rcases List.mem_cons.mp hd with rfl | hd
  ·exact h'.1
  ·exact Zai ds h'.2 d hd
theorem readsAll_map (μ:Mem) (n:Nat) {K:PySem.W.Frag} {H:Hp} {θ:List Addr} {h:Heap}:∀ (ds:List D) (vs:List V) (us:List Value),Rps K H θ μ ds vs->Vals vs us->(∀ d∈ds,∀ v u,Rp K H θ μ d v->RelV v u->∃ as,Reads h u (pd (thaw μ n d)) as)->∃ as,ReadsAll h us (pds (ds.map (thaw μ n))) as
 | [],vs,us,r,rv,_=>by cases r.nil_inv; cases rv; exact ⟨_,by rw [List.map_nil]; unfold pds; exact .nil⟩
 | d :: ds,vs,us,r,rv,hh=>by
  obtain ⟨v,vr,rfl,h1,h2⟩:=r.cons_inv
  cases rv with
  | cons ru rr =>
   obtain ⟨as,ra⟩:=hh d (by simp) v _ h1 ru
   obtain ⟨bs,rb⟩:=readsAll_map μ n ds vr _ h2 rr fun e he=>hh e (by simp [he])
   exact ⟨as ++ bs,by rw [List.map_cons]; unfold pds; exact .cons ra rb⟩
theorem Yr (I:Inv X pins σ H s) (wk:WOk X.K H θ μ):∀ (n m:Nat) (d:D) (v:V) (u:Value),Rp X.K H θ μ d v->RelV v u->flat m (thaw μ n d)=true->∃ as,Reads s.heap u (pd (thaw μ n d)) as
 | 0,m,d,v,u,r,ru,h=>Ve I m d v u r ru h
 | n + 1,m,d,v,u,r,ru,h=>by
  have ls:∀ {a:Addr} {xs:List V} {ds:List D} {u:Value},H a=some (.lst xs)->Rps X.K H θ μ ds xs->RelV (.ref a) u->flat m (.lst (ds.map (thaw μ n)))=true->∃ as,Reads s.heap u (pd (.lst (ds.map (thaw μ n)))) as:=by
   intro a xs ds u hH rs ru h
   cases ru
   cases m with
   | zero=>simp [flat] at h
   | succ m =>
    obtain ⟨its,rv,⟨o,k,ho,hc,_,hd⟩,_⟩:=I.list (SqL.of hH)
    obtain ⟨as,ra⟩:=readsAll_map μ n ds xs its rs rv fun d hd v u r ru=>Yr I wk n m d v u r ru (Zai ds (by simpa [flat] using h) d hd)
    exact ⟨a :: as,by unfold pd; exact .list ho hc hd (by simpa using ra)⟩
  cases d with
  | tup ds =>
   replace h:flat m (.tup (ds.map (thaw μ n)))=true:=h
   obtain ⟨a,xs,rfl,hH,_,rs⟩:=Ze r
   cases ru
   cases m with
   | zero=>simp [flat] at h
   | succ m =>
    obtain ⟨its,rv,⟨o,ho,hc,k,hd⟩,_⟩:=I.tuple (SqT.of hH)
    obtain ⟨as,ra⟩:=readsAll_map μ n ds xs its rs rv fun d hd v u r ru=>Yr I wk n m d v u r ru (Zai ds (by simpa [flat] using h) d hd)
    exact ⟨as,by show Reads _ _ (pd (.tup (ds.map (thaw μ n)))) _; unfold pd; exact .tuple ho hc hd (by simpa using ra)⟩
  | lst ds =>
   obtain ⟨a,xs,rfl,hH,_,rs⟩:=Yg r
   exact ls hH rs ru h
  | loc k =>
   obtain ⟨a,rfl,h1⟩:=Xc r
   have e:thaw μ (n + 1) (.loc k)=match μ[k]? with | some (.lst ds)=>.lst (ds.map (thaw μ n)) | _=>.loc k:=rfl
   rw [e] at h ⊢
   cases hk:μ[k]? with
   | none=>rw [hk] at h; simp [flat] at h
   | some c =>
    rw [hk] at h
    cases c with
    | lst ds =>
     obtain ⟨xs,hH,rs⟩:=wk.cell k _ a hk h1
     exact ls hH rs ru h
    | ins _ _=>simp [flat] at h
    | dic _ _=>simp [flat] at h
    | dtc _ _=>simp [flat] at h
    | fdt _ _ _=>simp [flat] at h
    | fdi _ _ _=>simp [flat] at h
    | exc _ _ _=>simp [flat] at h
    | gone=>simp [flat] at h
    | tbl=>simp [flat] at h
  | non=>exact Ve I m _ v u r ru h
  | bl _=>exact Ve I m _ v u r ru h
  | int _=>exact Ve I m _ v u r ru h
  | str _=>exact Ve I m _ v u r ru h
  | ro _=>exact Ve I m _ v u r ru h
  | dic _ _=>exact Ve I m _ v u r ru h
  | fdc _ _=>exact Ve I m _ v u r ru h
theorem eqT_ok {k:Nat} (hr:Room k X.A) (neg:Bool):OpR X (compareOp (if neg then .NotEq else .Eq)) (low2 X.K (wEqT neg)):=by
 intro pins s σ H x y v u Q I rx ry h
 obtain ⟨d,e,θ,μ,Qd,wk,rd,re,⟨f1,f2,q⟩,f⟩:=h
 have hu:X.A.units + 64 < cLine:=hr.units
 obtain ⟨as,ra⟩:=Yr I wk 8 60 d x v rd rx f1
 obtain ⟨bs,rb⟩:=Yr I wk 8 60 e y u re ry f2
 have dp:=Wx _ _ f1
 have bl:∀ {b:Bool},Qd (.bl b) μ->EP X pins σ Q (.bool b) s:=fun q=>⟨.bl _,H,I,rfl,f.at wk Zi q⟩
 cases neg with
 | true =>
  refine SeqAt.compareNe_reads ra rb (Wf _ _ f1) (Wf _ _ f2) (by omega) ?_
  rw [Y0 _ _ _ _ f1 f2]; exact bl (by simpa using q)
 | false =>
  refine SeqAt.compareEq_reads ra rb (Wf _ _ f1) (Wf _ _ f2) (by omega) ?_
  rw [Y0 _ _ _ _ f1 f2]; exact bl (by simpa using q)
noncomputable def tDict1 (key:Key) (v:V):TE:=fun _ H Q=>∀ p,H p=none->Q (.ref p) (upd H p (.dK [(key,v)]))
theorem upd_upd {H:Hp} {p:Addr} {a b:HO}:upd (upd H p a) p b=upd H p b:=by
 funext q
 unfold upd
 split <;> rfl
theorem sys_lt {pins:List (Addr×Obj)} {σ:L2.St} {H:Hp} {s:Shared} (I:Inv X pins σ H s):sysModules < s.heap.objs.size:=by
 have z:=(I.mod.glob.keeps I.bk).lt
 exact Nat.lt_trans (by decide) z
theorem Vcc {key:Key} {ke ve:Expr} {v:V} {pos:Pos} (hk:PE X ke (tC (kV key))) (hv:PE X ve (tC v)):PE X (.Dict [some ke] [ve] pos) (tDict1 key v):=by
 intro pins s σ H Q I q
 have hn:=I.hok.fresh (Nat.le_refl s.heap.objs.size)
 have e0:ObjOk X.prog X.w (upd H s.heap.objs.size (.dK [])) (s.heap.push { cls:=.type "dict",data:=.dict #[] }) s.heap.objs.size (.dK []) :=
  ⟨Nat.zero_le _,beq_eq_false_iff_ne.mpr (Ne.symm (Nat.ne_of_lt (sys_lt I))),[],.nil,Heap.DictOf.new s.heap⟩
 have I1:=I.laid (a:=s.heap.objs.size) (o:=.dK []) (h':=s.heap.push { cls:=.type "dict",data:=.dict #[] }) (t':=s.toks) (fun _ _ z=>Heap.get?_push_of_some _ z) (Nat.le_refl _) e0
 refine wpAny_Dict_walk (knd:=Xe X.prog X.w) rfl rfl (by simp) (by simp) (pairTrees_cons_walk ?_)
 refine thn (hk pins _ σ _ (fun x H1=>x=kV key/\H1=upd H s.heap.objs.size (.dK [])) I1 ⟨rfl,rfl⟩) fun u s1 ⟨x,H1,I2,rx,ex,eh⟩=>?_
 subst ex eh
 refine thn (hv pins s1 σ _ (fun y H2=>y=v/\H2=upd H s.heap.objs.size (.dK [])) I2 ⟨rfl,rfl⟩) fun w s2 ⟨y,H2,I3,ry,ey,eh⟩=>?_
 subst ey eh
 refine pairTrees_nil_walk ?_
 obtain ⟨_,hs,vs,kv,dd⟩:=(show ObjOk X.prog X.w _ s2.heap s.heap.objs.size (.dK []) from I3.hok s.heap.objs.size _ Xb)
 cases kv
 have hkey:Vah key u=true:=by
  cases key with
  | inl i=>obtain ⟨t,rfl⟩:=rx; exact Van i t
  | inr z=>obtain ⟨t,rfl⟩:=rx; exact Wan z t
 refine ⟨[(key,w)],⟨hkey,rfl,trivial⟩,dd,fun h' dd' hsb=>?_⟩
 have he:∃ q,h'.get? s.heap.objs.size=some q:=let ⟨q,_,_,hq,_⟩:=dd'; ⟨q,hq⟩
 have nw:ObjOk X.prog X.w (upd (upd H s.heap.objs.size (.dK [])) s.heap.objs.size (.dK [(key,y)])) h' s.heap.objs.size (.dK [(key,y)]) :=
  ⟨by rw [sizeLine_eq]; simp,hs,[(key,w)],.cons ⟨rfl,ry⟩ .nil,dd'⟩
 have I4:=I3.write (x:=s.heap.objs.size) (e:=s.heap.objs.size) (o:=.dK [(key,y)]) (h':=h') (t':=s2.toks + 1) (by rw [Xb]; exact True.intro) (.inl rfl) (fun b o nb z=>hsb.extBut _ _ nb z) he nw
 rw [upd_upd] at I4
 exact ⟨.ref s.heap.objs.size,_,I4,rfl,q _ hn⟩
theorem Wce {K:PySem.W.Frag} {H:Hp} {θ:List Addr} {μ:Mem} {Qd:QD} {Q:VK} {p:Addr} {k:DKey} {i:Int} (wk:WOk K H θ μ) (f:Fin K H θ μ Qd Q) (h:Qd (.loc μ.length) (μ ++ [.dic [k] [.int i]])) (hp:H p=none):Q (.ref p) (upd H p (.dK [(keyOf k,.int i)])):=by
 have g:Grow H θ μ (upd H p (.dK [(keyOf k,.int i)])) (θ ++ [p]) (μ ++ [.dic [k] [.int i]]):=Grow.new wk hp
 refine f (.loc μ.length) (.ref p) _ (θ ++ [p]) (μ ++ [.dic [k] [.int i]]) (wk.new (c:=.dic [k] [.int i]) hp (show CellOk K _ _ _ p (.dic [k] [.int i]) from ⟨_,Xb,rfl,Reps.one Vd⟩)) g ?_ h
 unfold Rep
 exact ⟨p,rfl,by rw [<- wk.len]; simp⟩
end
end DW
end
section
namespace DW
open PySem PySem.Spec PyProof.Rows L2
section
variable {X:Cx}
end
end DW
end
section
namespace DW
open PySem PySem.Spec PyProof.Rows L2
section
variable {X:Cx}
end
end DW
end
section
namespace DW
open PySem PySem.Spec PyProof.Rows L2
section
variable {X:Cx}
theorem truV_of {K:PySem.W.Frag} {H:Hp} {θ:List Addr} {μ:Mem} {d:D} {x:V} {b:Bool} (wk:WOk K H θ μ) (r:Rp K H θ μ d x) (h:truth μ d=some b):TruV K x H b:=by
 cases d with
 | non=>cases Xj r; simp only [truth,Option.some.injEq] at h; exact h.symm
 | bl c=>cases Vf r; simp only [truth,Option.some.injEq] at h; exact h.symm
 | int i=>cases Yb r; simp only [truth,Option.some.injEq] at h; exact h.symm
 | str y =>
  obtain ⟨rfl,hy⟩:=Zd r
  simp only [truth,lenOf,Option.map_some,Option.some.injEq] at h
  refine ⟨by simpa [Str.length] using hy,?_⟩
  rw [<- h]
  simp [Str.length]
  cases y <;> simp <;> omega
 | fdc ks ds=>simp [truth,lenOf,Zb] at h
 | dic ks ds =>
  obtain ⟨a,kvs,rfl,h1,_,h2,h3⟩:=V6 r
  simp only [truth,Option.some.injEq] at h
  refine .inr (.inr ⟨kvs,h1,?_⟩)
  have:=congrArg List.length h2
  simp at this
  rw [<- h,<- this]
  cases kvs <;> simp
 | tup ds =>
  simp only [truth,lenOf,Zb,Option.map_some,Option.some.injEq] at h
  obtain ⟨a,xs,rfl,hs,rs⟩:=Zk wk r (show Zb μ (.tup ds)=some ds from rfl)
  have e:b = !xs.isEmpty:=by rw [<- h,rs.length]; cases xs <;> simp
  rcases hs with hs | hs
  ·exact .inl ⟨xs,hs,e⟩
  ·exact .inr (.inl ⟨xs,hs,e⟩)
 | lst ds =>
  simp only [truth,lenOf,Zb,Option.map_some,Option.some.injEq] at h
  obtain ⟨a,xs,rfl,hs,rs⟩:=Zk wk r (show Zb μ (.lst ds)=some ds from rfl)
  have e:b = !xs.isEmpty:=by rw [<- h,rs.length]; cases xs <;> simp
  rcases hs with hs | hs
  ·exact .inl ⟨xs,hs,e⟩
  ·exact .inr (.inl ⟨xs,hs,e⟩)
 | ro ds =>
  simp only [truth,lenOf,Zb,Option.map_some,Option.some.injEq] at h
  obtain ⟨a,xs,rfl,hs,rs⟩:=Zk wk r (show Zb μ (.ro ds)=some ds from rfl)
  have e:b = !xs.isEmpty:=by rw [<- h,rs.length]; cases xs <;> simp
  rcases hs with hs | hs
  ·exact .inl ⟨xs,hs,e⟩
  ·exact .inr (.inl ⟨xs,hs,e⟩)
 | loc n =>
  simp only [truth,lenOf] at h
  cases q:Zb μ (.loc n) with
  | none=>rw [q] at h; cases h
  | some ds =>
   rw [q] at h
   simp only [Option.map_some,Option.some.injEq] at h
   obtain ⟨a,xs,rfl,hs,rs⟩:=Zk wk r q
   have e:b = !xs.isEmpty:=by rw [<- h,rs.length]; cases xs <;> simp
   rcases hs with hs | hs
   ·exact .inl ⟨xs,hs,e⟩
   ·exact .inr (.inl ⟨xs,hs,e⟩)
theorem Vu {a:Expr} {wa:WE} (ha:PE X a (LE X.K wa)) (he:∀ whole,isTrue a X.env whole=(do let v <- whole; standAt a.pos; holding [v] (truthy v))) :
  PT X a (LT X.K fun ρ μ Q=>wa ρ μ fun d μ1=>wTru d μ1 Q):=PT.wk (Yb9 ha he) fun σ H Q h=>by
 obtain ⟨ρ,θ,μ,Qd,s,h,f⟩:=h
 refine ⟨ρ,θ,μ,_,s,h,fun d v H1 θ1 μ1 w1 g1 r1 h1=>?_⟩
 unfold wTru at h1
 split at h1
 ·rename_i b e
  exact ⟨b,truV_of w1 r1 e,f b H1 θ1 μ1 w1 g1 h1⟩
 ·exact h1.elim
theorem kit_tab (K:PySem.W.Frag):∀ a∈["NoneType","bool","int","str","tuple","list","dict"],∀ b∈["int","bool","str","tuple","list","dict"],PySem.W.kitOne K (.type a) (.type b)=some (isTy a b):=by
 intro a ha b hb
 simp only [List.mem_cons,List.not_mem_nil,or_false] at ha hb
 rcases ha with rfl | rfl | rfl | rfl | rfl | rfl | rfl <;> rcases hb with rfl | rfl | rfl | rfl | rfl | rfl <;> first | rfl | decide
theorem Zbj {K:PySem.W.Frag} {H:Hp} {θ:List Addr} {μ:Mem} {d:D} {x:V} {t:String} (wk:WOk K H θ μ) (r:Rp K H θ μ d x) (h:tyOf μ d=some t):TyOf K H x (.type t)/\t∈["NoneType","bool","int","str","tuple","list","dict"]:=by
 cases d with
 | non=>cases Xj r; cases h; exact ⟨.non,by simp⟩
 | bl c=>cases Vf r; cases h; exact ⟨.bl _,by simp⟩
 | int i=>cases Yb r; cases h; exact ⟨.int _,by simp⟩
 | str y=>cases (Zd r).1; cases h; exact ⟨.str _,by simp⟩
 | dic ks ds=>obtain ⟨a,kvs,rfl,h1,_⟩:=V6 r; cases h; exact ⟨.dK h1,by simp⟩
 | fdc ks ds=>cases h
 | tup ds=>obtain ⟨a,kvs,rfl,h1,_⟩:=Ze r; cases h; exact ⟨.tup h1,by simp⟩
 | lst ds=>obtain ⟨a,kvs,rfl,h1,_⟩:=Yg r; cases h; exact ⟨.lst h1,by simp⟩
 | ro ds=>cases h
 | loc n =>
  obtain ⟨a,rfl,h1⟩:=Xc r
  simp only [tyOf] at h
  split at h
  ·rename_i es hn
   cases h
   obtain ⟨xs,h2,_⟩:=wk.list hn h1
   exact ⟨.lst h2,by simp⟩
  ·rename_i ks es hn
   cases h
   obtain ⟨kvs,h2,_⟩:=wk.cell n _ a hn h1
   exact ⟨.dK h2,by simp⟩
  ·cases h
theorem Xck:∀ b∈["int","bool","str","tuple","list","dict"],bootBuiltins (Str.ofString b)=some (.type b)/\Str.ofString b≠"__name__"/\(Str.ofString b == ("__debug__" : Str))=false:=by
 intro b hb
 simp only [List.mem_cons,List.not_mem_nil,or_false] at hb
 rcases hb with rfl | rfl | rfl | rfl | rfl | rfl <;> exact ⟨by decide +kernel,by decide +kernel,by decide +kernel⟩
theorem Waz:bootBuiltins "isinstance" = some (.builtin "isinstance"):=by decide +kernel
theorem Xaz:CallR X (.builtin "isinstance") (fun xs H Q=>∃ x t c,xs=[x,.ty c]/\TyOf X.K H x (.type t)/\t∈["NoneType","bool","int","str","tuple","list","dict"]/\c∈["int","bool","str","tuple","list","dict"]/\Q (.bl (isTy t c)) H):=by
 intro pins s σ H xs us Q I r h
 obtain ⟨x,t,c,rfl,ty,ht,hc,q⟩:=h
 obtain ⟨u,w',rfl,rx,ry⟩:=vals2 r
 cases ry
 exact Ybt I rx ty (kit_tab X.K t ht c hc) fun tk=>⟨.bl _,H,I.tok tk,rfl,q⟩
theorem Wcc {a:Expr} {wa:WE} {t:String} {y z:Str} {p p2 pos:Pos} (ha:PE X a (LE X.K wa)) (ey:y=Str.ofString "isinstance") (ht:t∈["int","bool","str","tuple","list","dict"]) (ez:z=Str.ofString t) (g1:Gl X y) (g2:Gl X z) (m1:X.mg y=none) (m2:X.mg z=none)
  (hs:starEach [a,.Name z p2] X.env=(false,eval a X.env) :: starEach [.Name z p2] X.env) :
  PE X (.Call (.Name y p) [a,.Name z p2] [] pos) (LE X.K fun ρ μ Q=>wa ρ μ fun d μ1=>Ws t d μ1 Q):=by
 subst ey ez
 obtain ⟨b1,b2,b3⟩:=Xck t ht
 have hz:PE X (.Name (Str.ofString t) p2) (tC (.ty t)):=pe_bltn g2 m2 b1 rfl b2 b3
 refine PE.wk (Vg (x:=Str.ofString "isinstance") Xaz g1 m1 Waz (Yl ha (Yl hz Zw) hs) (by decide +kernel) (by decide +kernel) hs rfl) fun σ H Q h=>?_
 obtain ⟨ρ,θ,μ,Qd,s,h,f⟩:=h
 refine ⟨ρ,θ,μ,_,s,h,fun d v H1 θ1 μ1 w1 g1 r1 h1=>?_⟩
 unfold Ws at h1
 split at h1
 ·rename_i ty e
  obtain ⟨k1,k2⟩:=Zbj w1 r1 e
  exact ⟨v,ty,t,rfl,k1,k2,ht,f _ _ H1 θ1 μ1 w1 g1 Zi h1⟩
 ·exact h1.elim
theorem ixD_eq (n:Nat) (i:Int):ixD n i=ixN n i:=rfl
theorem reps_at {K:PySem.W.Frag} {H:Hp} {θ:List Addr} {μ:Mem} {ds:List D} {xs:List V} {i:Int} {d:D} (r:Rps K H θ μ ds xs) (h:(ixD ds.length i).bind (ds[·]?)=some d):∃ v,atI xs i=some v/\Rp K H θ μ d v:=by
 rw [r.length,ixD_eq] at h
 cases q:ixN xs.length i with
 | none=>rw [q] at h; cases h
 | some j =>
  rw [q] at h
  obtain ⟨v,e1,e2⟩:=r.get (i:=j) h
  exact ⟨v,by unfold atI; rw [q]; exact e1,e2⟩
theorem idx_ok:IxR X (low2 X.K wIdx):=by
 intro value slice pins s σ H x y v u Q I rx ry h hs
 obtain ⟨d,e,θ,μ,Qd,wk,rd,re,hw,f⟩:=h
 unfold wIdx at hw
 split at hw
 ·rename_i x' i
  cases Yb re
  split at hw
  ·rename_i ds hq
   obtain ⟨a,xs,rfl,hx,r⟩:=Zk wk rd hq
   split at hw
   ·rename_i d' hd
    obtain ⟨w',e1,e2⟩:=reps_at r hd
    rcases hx with hx | hx
    ·exact Wbs value slice pins s σ H _ _ v u Q I rx ry ⟨a,xs,i,w',rfl,rfl,hx,e1,f.at wk e2 hw⟩ hs
    ·exact ix_tup value slice pins s σ H _ _ v u Q I rx ry ⟨a,xs,i,w',rfl,rfl,hx,e1,f.at wk e2 hw⟩ hs
   ·exact hw.elim
  ·exact hw.elim
 ·exact hw.elim
theorem Vn (n d:Nat) (o:Option Int):sIxD n d o=HT.sIx n d o:=by
 cases o with
 | none=>rfl
 | some v=>first | rfl | (simp only [sIxD,HT.sIx]; done) | (simp only [sIxD,HT.sIx]; split <;> omega)
noncomputable def lowSl (K:PySem.W.Frag) (m:Bool):V->Option Int->Option Int->Hp->VK->Prop:=fun x lo hi H Q=>∃ d θ μ Qd,WOk K H θ μ/\Rp K H θ μ d x/\wSlc m d lo hi μ Qd/\Fin K H θ μ Qd Q
theorem Vbj {prog:Program} {w:World} {A:Around} {E:Value->Shared->Prop} {s:Shared} {t sl:Addr} {its:Array Value} {vl vu:Value} {lo hi:Option Int} {Q:Value->Shared->Prop}
  (ht:IsTup s.heap t its) (hs:s.heap.IsSliceOf sl vl vu .none) (pl:IsPart vl lo) (pu:IsPart vu hi) (h0:HT.sIx its.size 0 lo=0) (h1:HT.sIx its.size its.size hi=its.size) (h:Q (.ref t) s) :
  wpAny (model prog w) A (getItem (.ref t) (.ref sl)) Q E s:=by
 have ts:s.TypeIs (.ref sl) "slice":=by
  obtain ⟨os,a,b,_⟩:=id hs
  exact ⟨os,a,b⟩
 unfold getItem
 (try with_reducible refine wpAny_holding ?_)
 (first | refine wpAny_bind (wpAny_pure ?_) | skip)
 refine wpAny_bind
  (wpAny_sequenceKey ht.typeIs (by decide) ?_)
 refine wpAny_bind (wpAny_callSpecial?_slot
  (name:=Str.ofString "__getitem__") ht.typeIs
  PyProof.Rows.slot_tuple_getitem (wpAny_call_entry
   PyProof.Rows.slot_tuple_getitem ht.typeIs PyProof.Rows.entry_tuple_getitem ?_ (PyProof.Rows.args_tuple_getitem _ _)))
 show wpAny _ _ (Builtin.Tuple.tupleItemsOf _ >>= _) _ _ s
 refine wpAny_bind (PyProof.Rows.tupleItemsOf_ ht
  (wpAny_bind (wpAny_typeOf ts ?_)))
 rw [if_pos (by decide)]
 refine wpAny_bind (HT.sliceApplied_gen hs pl pu ?_)
 rw [h0,h1]
 show wpAny _ _ (if ((((0:Nat):Int) == 0 && (1:Int) == 1 && (its.size - 0) == its.size)=true) then _ else _) _ _ s
 rw [if_pos (by simp)]
 first
  | exact wpAny_bind (wpAny_bind (m:=Builtin.Tuple.tupleIsExact _) (wpAny_bind (wpAny_typeOf ht.typeIs (wpAny_pure (wpAny_bind (wpAny_rule (wpAny_bind (wpAny_pure ⟨_,rfl,wpAny_pure h⟩))))))))
  | exact wpAny_bind (m:=Builtin.Tuple.tupleIsExact _) (wpAny_bind (wpAny_typeOf ht.typeIs (wpAny_pure (by
    show wpAny _ _ (if ((Value.type "tuple" == Value.type "tuple")=true) then _ else _) _ _ s
    rw [if_pos (by decide)]
    first
     | exact wpAny_bind (wpAny_rule (wpAny_pure ⟨_,rfl,wpAny_pure h⟩))
     | exact wpAny_bind (wpAny_rule (wpAny_bind (wpAny_pure (wpAny_pure ⟨_,rfl,wpAny_pure h⟩))))
     | exact wpAny_bind (wpAny_rule (wpAny_bind (wpAny_pure ⟨_,rfl,wpAny_pure h⟩)))))))
theorem slc_ok (m:Bool):SlR X (lowSl X.K m):=by
 intro pins s σ H x v vl vu lo hi sl Q I rx hs pl pu h
 obtain ⟨d,θ,μ,Qd,wk,rd,hw,f⟩:=h
 have go:∀ {ds:List D} {a:Addr} {xs:List V},x = .ref a->SqL X.K H a xs->Rps X.K H θ μ ds xs->newL m (cutD ds lo hi) μ Qd->_:=fun {ds a xs} ex hx r hn =>
  sl_list pins s σ H x v vl vu lo hi sl Q I rx hs pl pu ⟨a,xs,ex,hx,fun p hp=>W5 wk f (by
   have:cutD ds lo hi=(ds.drop (HT.sIx ds.length 0 lo)).take (HT.sIx ds.length ds.length hi - HT.sIx ds.length 0 lo):=by unfold cutD; rw [Vn,Vn]
   rw [this,r.length]
   exact (r.drop _).take _) hn hp⟩
 cases d with
 | lst ds=>obtain ⟨a,xs,rfl,h1,_,r⟩:=Yg rd; exact go rfl (.of h1) r hw
 | tup ds =>
  obtain ⟨a,xs,rfl,h1,_,r⟩:=Ze rd
  have hl:=r.length
  have hq:Qd (.tup (cutD ds lo hi)) μ:=hw
  by_cases hn:sIxD ds.length 0 lo=0/\sIxD ds.length ds.length hi=ds.length
  ·cases rx
   obtain ⟨its,ri,ht,hz⟩:=I.tuple (SqT.of h1)
   have hlen:its.toArray.size=ds.length:=by rw [List.size_toArray,<- ri.length,hl]
   have ec:cutD ds lo hi=ds:=by
    unfold cutD
    rw [hn.1,hn.2]
    simp
   rw [ec] at hq
   exact ⟨"tuple",_,PyProof.Rows.slot_tuple_getitem.lookup,ht.typeIs,Vbj ht hs pl pu (by rw [hlen,<- Vn]; exact hn.1) (by rw [hlen,<- Vn]; exact hn.2) ⟨.ref a,H,I,rfl,f.at wk rd hq⟩⟩
  refine sl_tup pins s σ H _ v vl vu lo hi sl Q I rx hs pl pu ⟨a,xs,rfl,.of h1,?_,fun p hp=>?_⟩
  ·rw [Vn,Vn,hl] at hn; exact hn
  ·refine X5 wk f ?_ hq hp
   have:cutD ds lo hi=(ds.drop (HT.sIx ds.length 0 lo)).take (HT.sIx ds.length ds.length hi - HT.sIx ds.length 0 lo):=by unfold cutD; rw [Vn,Vn]
   rw [this,hl]
   exact (r.drop _).take _
 | loc n =>
  obtain ⟨a,rfl,h1⟩:=Xc rd
  simp only [wSlc] at hw
  split at hw
  ·rename_i ds hn
   obtain ⟨xs,h2,r⟩:=wk.list hn h1
   exact go rfl (.of h2) r hw
  ·exact hw.elim
 | _=>exact hw.elim
theorem Zb8:PSet X (fun o i v H Q=>∃ x y z θ μ k,WOk X.K H θ μ/\Rp X.K H θ μ x o/\Rp X.K H θ μ y i/\Rp X.K H θ μ z v/\Zab x y z μ k/\∀ H' μ',WOk X.K H' θ μ'->Grow H θ μ H' θ μ'->k μ'->Q H'):=by
 intro pins s σ H o i v ov iv u Q I ro ri rv h
 obtain ⟨x,y,z,θ,μ,k,wk,rx,ry,rz,hw,f⟩:=h
 unfold Zab at hw
 split at hw
 ·rename_i n j
  obtain ⟨a,rfl,ha⟩:=Xc rx
  cases Yb ry
  split at hw
  ·rename_i xs hn
   split at hw
   ·rename_i p hp
    obtain ⟨vs,h2,r⟩:=wk.list hn ha
    have g:Grow H θ μ (upd H a (.lst (vs.set p v))) θ (μ.set n (.lst (xs.set p z))):=Grow.write hn ha (by simp) (by simp)
    refine set_list pins s σ H _ _ v ov iv u Q I ro ri rv ⟨a,vs,j,p,rfl,rfl,h2,by rw [<- ixD_eq,<- r.length]; exact hp,?_⟩
    exact f _ _ (wk.write (c':=.lst (xs.set p z)) hn ha (by simp) (by simp) (show CellOk X.K _ _ _ a (.lst (xs.set p z)) from ⟨_,Xb,(g.reps r).set (g.rep rz) p⟩)) g hw
   ·exact hw.elim
  ·exact hw.elim
 ·exact hw.elim
theorem Vaj {m:String} {x:V} {d:D} {ds:List D} {H:Hp} {θ:List Addr} {μ:Mem} {Qd:QD} (wk:WOk X.K H θ μ) (rd:Rp X.K H θ μ d x) (hw:Xy m d ds μ Qd) :
  ∃ n a xs ys,d = .loc n/\x = .ref a/\θ[n]? = some a/\μ[n]? = some (.lst xs)/\H a=some (.lst ys)/\Rps X.K H θ μ xs ys/\Wj m n xs ds μ Qd:=by
 cases d with
 | loc n =>
  obtain ⟨a,rfl,ha⟩:=Xc rd
  simp only [Xy] at hw
  split at hw
  ·rename_i xs hn
   obtain ⟨ys,h2,r⟩:=wk.list hn ha
   exact ⟨n,a,xs,ys,rfl,rfl,ha,hn,h2,r,hw⟩
  ·exact hw.elim
 | _=>exact hw.elim
theorem Zax {H:Hp} {θ:List Addr} {μ:Mem} {Qd:QD} {Q:VK} {n:Nat} {a:Addr} {xs xs':List D} {ys':List V} {e:D} {v:V} (wk:WOk X.K H θ μ) (f:Fin X.K H θ μ Qd Q) (ha:θ[n]? = some a) (hn:μ[n]? = some (.lst xs)) (r:Rps X.K H θ μ xs' ys')
  (re:Rp X.K H θ μ e v) (h:Qd e (μ.set n (.lst xs'))):Q v (upd H a (.lst ys')):=by
 have g:Grow H θ μ (upd H a (.lst ys')) θ (μ.set n (.lst xs')):=Grow.write hn ha (by simp) (by simp)
 exact f e v _ _ _ (wk.write (c':=.lst xs') hn ha (by simp) (by simp) (show CellOk X.K _ _ _ a (.lst xs') from ⟨_,Xb,g.reps r⟩)) g (g.rep re) h
theorem Xav:MtR X "list.append" (lowM X.K (Xy "append")):=by
 intro pins s σ H x vs v us Q I rx rv h
 obtain ⟨d,ds,θ,μ,Qd,wk,rd,rs,hw,f⟩:=h
 obtain ⟨n,a,xs,ys,rfl,rfl,ha,hn,h2,r,hw⟩:=Vaj wk rd hw
 match ds,hw with
 | [e],hw =>
  obtain ⟨w',vr,rfl,r1,r2⟩:=rs.cons_inv
  cases r2.nil_inv
  have hw:xs.length < lim/\Qd .non (μ.set n (.lst (xs ++ [e]))):=hw
  exact Xbq pins s σ H _ _ v us Q I rx rv ⟨a,ys,w',rfl,rfl,h2,by rw [<- r.length,<- V5]; exact hw.1,Zax wk f ha hn (r.append (Reps.one r1)) Xa3 hw.2⟩
 | [],hw=>simp [Wj] at hw
 | e1 :: e2 :: er,hw=>cases e1 <;> cases er <;> simp [Wj] at hw
theorem Reps.dropLast' {K:PySem.W.Frag} {H:Hp} {θ:List Addr} {L:Addr->Prop} {ds:List D} {vs:List V} (h:Reps K H θ L ds vs):Reps K H θ L ds.dropLast vs.dropLast:=by
 rw [List.dropLast_eq_take,List.dropLast_eq_take,h.length]; exact h.take _
theorem Reps.eraseIdx' {K:PySem.W.Frag} {H:Hp} {θ:List Addr} {L:Addr->Prop} {ds:List D} {vs:List V} (h:Reps K H θ L ds vs) (k:Nat):Reps K H θ L (ds.eraseIdx k) (vs.eraseIdx k):=by
 rw [List.eraseIdx_eq_take_drop_succ,List.eraseIdx_eq_take_drop_succ]
 exact (h.take k).append (h.drop (k + 1))
theorem Yb8 (k:Int) (n:Nat):seqIndex? k n=ixD n k:=by
 unfold seqIndex? ixD
 dsimp only
 by_cases h0:0<=k
 ·rw [if_pos h0,if_neg (show ¬ k < 0 by omega)]
  by_cases h1:k < n
  ·rw [if_pos h1,if_pos (by simp [h0,h1])]
  ·rw [if_neg h1,if_neg (by simp [h1])]
 ·rw [if_neg h0,if_pos (show k < 0 by omega)]
  by_cases h1 : -(n:Int)<=k
  ·rw [if_pos h1,if_pos]
   simp; omega
  ·rw [if_neg h1,if_neg]
   simp; omega
theorem Za4:MtR X "list.pop" (lowM X.K (Xy "pop")):=by
 intro pins s σ H x vs v us Q I rx rv h
 obtain ⟨d,ds,θ,μ,Qd,wk,rd,rs,hw,f⟩:=h
 obtain ⟨n,a,xs,ys,rfl,rfl,ha,hn,h2,r,hw⟩:=Vaj wk rd hw
 match ds,hw with
 | [],hw =>
  cases rs.nil_inv
  simp only [Wj] at hw
  split at hw
  ·rename_i e he
   obtain ⟨w',e1,e2⟩:=r.get he
   rw [r.length] at e1
   exact mt_pop pins s σ H _ _ v us Q I rx rv ⟨a,ys,w',rfl,rfl,h2,e1,Zax wk f ha hn r.dropLast' e2 hw⟩
  ·exact hw.elim
 | [e],hw =>
  obtain ⟨w',vr,rfl,r1,r2⟩:=rs.cons_inv
  cases r2.nil_inv
  cases e with
  | int k =>
   cases Yb r1
   simp only [Wj] at hw
   split at hw
   ·rename_i p hp
    split at hw
    ·rename_i e he
     obtain ⟨w',e1,e2⟩:=r.get he
     have hl:ys.length<=sizeLine:=(I.lstM h2).1
     have hp':=hp
     rw [r.length] at hp
     have hb : -(2 ^ 63)<=k/\k < 2 ^ 63:=by
      rw [sizeLine_eq] at hl
      unfold ixD at hp
      split at hp
      ·split at hp
       ·omega
       ·cases hp
      ·split at hp
       ·omega
       ·cases hp
     exact Ycf pins s σ H _ _ v us Q I rx rv ⟨a,ys,k,p,w',rfl,rfl,h2,hb.1,hb.2,by rw [<- hp]; exact Yb8 _ _,e1,Zax wk f ha hn (r.eraseIdx' p) e2 hw⟩
    ·exact hw.elim
   ·exact hw.elim
  | _=>simp [Wj] at hw
 | e1 :: e2 :: er,hw=>cases e1 <;> cases er <;> simp [Wj] at hw
end
end DW
end
section
namespace DW
open PySem PySem.Spec PyProof.Rows L2
section
variable {X:Cx}
theorem Xg {K:PySem.W.Frag} {H:Hp} {θ:List Addr} {μ:Mem} {ds:List D} {d:D} {v:V} (wk:WOk K H θ μ) (r:Rp K H θ μ d v) (h:Zf μ d=some ds):∃ a xs,v = .ref a/\SqL K H a xs/\Rps K H θ μ ds xs:=by
 cases d with
 | lst es=>simp only [Zf,Zb,Option.some.injEq] at h; subst h; obtain ⟨a,xs,e,h1,_,h3⟩:=Yg r; exact ⟨a,xs,e,.of h1,h3⟩
 | ro es=>simp only [Zf,Zb,Option.some.injEq] at h; subst h; obtain ⟨a,xs,e,h1,h3⟩:=Za5 r; exact ⟨a,xs,e,Wa8 h1,h3⟩
 | loc n =>
  obtain ⟨a,e,h1⟩:=Xc r
  simp only [Zf,Zb] at h
  split at h
  ·rename_i es hn
   simp only [Option.some.injEq] at h; subst h
   obtain ⟨xs,h2,h3⟩:=wk.list hn h1
   exact ⟨a,xs,e,.of h2,h3⟩
  ·cases h
 | _=>simp [Zf,Zb] at h
theorem Zu {K:PySem.W.Frag} {H:Hp} {θ:List Addr} {μ:Mem}:∀ {ds:List D} {xs:List V} {ns:List Int},Rps K H θ μ ds xs->We ds=some ns->xs=ns.map V.int
 | [],xs,ns,r,h=>by
  cases r.nil_inv
  simp only [We,Option.some.injEq] at h
  subst h; rfl
 | d :: ds,xs,ns,r,h=>by
  obtain ⟨v,vr,rfl,h1,h2⟩:=r.cons_inv
  cases d with
  | int i =>
   simp only [We] at h
   cases q:We ds with
   | none=>rw [q] at h; cases h
   | some ms =>
    rw [q] at h
    simp only [Option.map_some,Option.some.injEq] at h
    subst h
    cases Yb h1
    rw [Zu h2 q]; rfl
  | _=>simp [We] at h
theorem Zb2 {K:PySem.W.Frag} {H:Hp} {θ:List Addr} {μ:Mem}:∀ {ds:List D} {xs:List V} {b:Bool},Rps K H θ μ ds xs->allB ds=some b->∃ bs:List Bool,xs=bs.map V.bl/\bs.all id=b
 | [],xs,b,r,h=>by
  cases r.nil_inv
  simp only [allB,Option.some.injEq] at h
  subst h; exact ⟨[],rfl,rfl⟩
 | d :: ds,xs,b,r,h=>by
  obtain ⟨v,vr,rfl,h1,h2⟩:=r.cons_inv
  cases d with
  | bl c =>
   simp only [allB] at h
   cases q:allB ds with
   | none=>rw [q] at h; cases h
   | some ms =>
    rw [q] at h
    simp only [Option.map_some,Option.some.injEq] at h
    subst h
    cases Vf h1
    obtain ⟨bs,rfl,e⟩:=Zb2 h2 q
    exact ⟨c :: bs,rfl,by simp [<- e]⟩
  | _=>simp [allB] at h
theorem anys_V {K:PySem.W.Frag} {H:Hp} {θ:List Addr} {μ:Mem}:∀ {ds:List D} {xs:List V} {b:Bool},Rps K H θ μ ds xs->anyB ds=some b->∃ bs:List Bool,xs=bs.map V.bl/\bs.any id=b
 | [],xs,b,r,h=>by
  cases r.nil_inv
  simp only [anyB,Option.some.injEq] at h
  subst h; exact ⟨[],rfl,rfl⟩
 | d :: ds,xs,b,r,h=>by
  obtain ⟨v,vr,rfl,h1,h2⟩:=r.cons_inv
  cases d with
  | bl c =>
   simp only [anyB] at h
   cases q:anyB ds with
   | none=>rw [q] at h; cases h
   | some ms =>
    rw [q] at h
    simp only [Option.map_some,Option.some.injEq] at h
    subst h
    cases Vf h1
    obtain ⟨bs,rfl,e⟩:=anys_V h2 q
    exact ⟨c :: bs,rfl,by simp [<- e]⟩
  | _=>simp [anyB] at h
theorem kept_iter {h h':Heap} {o:Obj} (hk:∀ b ob,b ∉ [h.objs.size]->(h.push o).get? b=some ob->h'.get? b=some ob):∀ b ob,h.get? b=some ob->h'.get? b=some ob:=fun b ob e =>
 hk b ob (fun hm=>by
  have:=List.mem_singleton.mp hm
  subst this
  exact Nat.lt_irrefl _ (Heap.lt_size e)) (Heap.get?_push_of_some _ e)
theorem Yb1 (hc:X.calm=true):CallR X (.builtin "all") (fun xs H Q=>∃ p,∃ bs:List Bool,xs=[.ref p]/\SqL X.K H p (bs.map V.bl)/\Q (.bl (bs.all id)) H):=by
 intro pins s σ H xs us Q I r h
 obtain ⟨p,bs,rfl,hx,q⟩:=h
 obtain ⟨u,rfl,rx⟩:=vals1 r
 cases rx
 obtain ⟨its,rv,pl,hz⟩:=I.list hx
 have hlt:p < s.heap.objs.size:=by obtain ⟨o,n,e,_⟩:=pl; exact Heap.lt_size e
 have hlen:bs.length=its.length:=by have:=rv.length; simpa using this
 have hit:∀ (i:Nat) (v:Value),its.toArray[i]? = some v->v = .bool (bs.getD i true):=fun i v e=>by
  have e':its[i]? = some v:=by simpa using e
  have hi:i < bs.length:=by rw [hlen]; exact (List.getElem?_eq_some_iff.mp e').1
  obtain ⟨w',h1,h2⟩:=rv.get (i:=i) (x:=.bl (bs.getD i true)) (by simp [hi])
  rw [e'] at h1; cases h1; exact h2
 refine call_all_walk (wpAny_pyIter_list pl.isList ?_)
 refine ⟨s.heap.objs.size,_,_,_,_,_,fun i=>bs.getD i true,rfl,Walks.list (A:=X.A.in1) (I.ok.hd hc) _ p (Nat.ne_of_lt hlt) its.toArray,⟨⟨_,Heap.get?_push_size _ rfl,rfl,rfl⟩,pl.isList.push _⟩,fun i v s' Q' E' hP hQ=>?_,fun h' tk hk=>?_⟩
 ·rw [hit i v hP]; exact wpAny_truthy_bool hQ
 ·refine ⟨.bl (bs.all id),H,I.kept (kept_iter hk),?_,q⟩
  show Value.bool _=Value.bool _
  congr 1
  rw [List.size_toArray,<- hlen,Bool.eq_iff_iff,List.all_eq_true,List.all_eq_true]
  constructor
  ·intro hh x hx
   obtain ⟨i,hi,rfl⟩:=List.mem_iff_getElem.mp hx
   have:=hh i (by simpa using hi)
   simpa [hi] using this
  ·intro hh i hi
   have hi':i < bs.length:=by simpa using hi
   have:=hh bs[i] (List.getElem_mem hi')
   simpa [hi'] using this
theorem Zb1 (hc:X.calm=true):CallR X (.builtin "any") (fun xs H Q=>∃ p,∃ bs:List Bool,xs=[.ref p]/\SqL X.K H p (bs.map V.bl)/\Q (.bl (bs.any id)) H):=by
 intro pins s σ H xs us Q I r h
 obtain ⟨p,bs,rfl,hx,q⟩:=h
 obtain ⟨u,rfl,rx⟩:=vals1 r
 cases rx
 obtain ⟨its,rv,pl,hz⟩:=I.list hx
 have hlt:p < s.heap.objs.size:=by obtain ⟨o,n,e,_⟩:=pl; exact Heap.lt_size e
 have hlen:bs.length=its.length:=by have:=rv.length; simpa using this
 have hit:∀ (i:Nat) (v:Value),its.toArray[i]? = some v->v = .bool (bs.getD i true):=fun i v e=>by
  have e':its[i]? = some v:=by simpa using e
  have hi:i < bs.length:=by rw [hlen]; exact (List.getElem?_eq_some_iff.mp e').1
  obtain ⟨w',h1,h2⟩:=rv.get (i:=i) (x:=.bl (bs.getD i true)) (by simp [hi])
  rw [e'] at h1; cases h1; exact h2
 refine call_any_walk (wpAny_pyIter_list pl.isList ?_)
 refine ⟨s.heap.objs.size,_,_,_,_,_,fun i=>bs.getD i true,rfl,Walks.list (A:=X.A.in1) (I.ok.hd hc) _ p (Nat.ne_of_lt hlt) its.toArray,⟨⟨_,Heap.get?_push_size _ rfl,rfl,rfl⟩,pl.isList.push _⟩,fun i v s' Q' E' hP hQ=>?_,fun h' tk hk=>?_⟩
 ·rw [hit i v hP]; exact wpAny_truthy_bool hQ
 ·refine ⟨.bl (bs.any id),H,I.kept (kept_iter hk),?_,q⟩
  show Value.bool _=Value.bool _
  congr 1
  rw [List.size_toArray,<- hlen,Bool.eq_iff_iff,List.any_eq_true,List.any_eq_true]
  constructor
  ·rintro ⟨i,hi,hh⟩
   have hi':i < bs.length:=by simpa using hi
   exact ⟨bs[i],List.getElem_mem hi',by simpa [hi'] using hh⟩
  ·rintro ⟨x,hx,hh⟩
   obtain ⟨i,hi,rfl⟩:=List.mem_iff_getElem.mp hx
   exact ⟨i,by simpa using hi,by simpa [hi] using hh⟩
theorem Xh:∀ {ns:List Int} {its:List Value},Vals (ns.map V.int) its->∃ xs:Array (Int×Tok),its.toArray=intItems xs/\xs.toList.map (·.1)=ns
 | [],its,h=>by cases h; exact ⟨#[],by simp [intItems],rfl⟩
 | n :: ns,its,h=>by
  cases h with
  | cons r rr =>
   obtain ⟨t,rfl⟩:=r
   obtain ⟨xs,e1,e2⟩:=Xh rr
   refine ⟨((n,t) :: xs.toList).toArray,?_,by simp [e2]⟩
   have e1':=congrArg Array.toList e1
   simp only [intItems,Array.toList_map] at e1'
   apply Array.toList_inj.mp
   simp only [intItems,Array.toList_map]
   simpa using e1'
theorem Vac (xs:Array (Int×Tok)):preSum (numAt xs) xs.size=(xs.toList.map (·.1)).sum:=by
 rw [preSum_eq,List.take_of_length_le (by simp)]
theorem Zb0 (hc:X.calm=true):CallR X (.builtin "sum") (fun xs H Q=>∃ p,∃ ns:List Int,xs=[.ref p]/\SqL X.K H p (ns.map V.int)/\Q (.int ns.sum) H):=by
 intro pins s σ H xs us Q I r h
 obtain ⟨p,ns,rfl,hx,q⟩:=h
 obtain ⟨u,rfl,rx⟩:=vals1 r
 cases rx
 obtain ⟨its,rv,pl,hz⟩:=I.list hx
 obtain ⟨zs,e1,e2⟩:=Xh rv
 have hl:=pl.isList
 rw [e1] at hl
 refine sum_intListG (I.ok.hd hc) hl fun h' tk t' hk=>⟨.int ns.sum,H,I.kept hk,⟨t',?_⟩,q⟩
 rw [Vac,e2]
theorem Vbz (hc:X.calm=true):CallR X (.builtin "sum") (fun xs H Q=>∃ p,∃ ns:List Int,xs=[.ref p]/\SqT X.K H p (ns.map V.int)/\Q (.int ns.sum) H):=by
 intro pins s σ H xs us Q I r h
 obtain ⟨p,ns,rfl,hx,q⟩:=h
 obtain ⟨u,rfl,rx⟩:=vals1 r
 cases rx
 obtain ⟨its,rv,pl,hz⟩:=I.tuple hx
 obtain ⟨zs,e1,e2⟩:=Xh rv
 have hl:s.heap.IsTuple p its.toArray:=pl
 rw [e1] at hl
 refine PySem.W.ktm_sumG (I.ok.hd hc) hl fun h' tk t' hk=>⟨.int ns.sum,H,I.kept hk,⟨t',?_⟩,q⟩
 rw [Vac,e2]
theorem min_arg (xs:Array (Int×Tok)) (n:Int) (ns:List Int) (h:xs.toList.map (·.1)=n :: ns):numAt xs (argBest (fun i j=>decide (numAt xs i < numAt xs j)) (xs.size - 1))=ns.foldl min n:=by
 have key:∀ k,k < (n :: ns).length->numAt xs (argBest (fun i j=>decide (numAt xs i < numAt xs j)) k)=(ns.take k).foldl min n:=by
  intro k
  have at_:∀ i,numAt xs i=((n :: ns)[i]?).getD 0:=fun i=>by
   rw [<- h]; simp [numAt]
  induction k with
  | zero=>intro _; simp [argBest,at_]
  | succ k ih =>
   intro hk
   have ih':=ih (by omega)
   have hk':k < ns.length:=by simpa using hk
   have e:ns.take (k + 1)=ns.take k ++ [ns[k]]:=by rw [List.take_succ_eq_append_getElem hk']
   rw [e,List.foldl_append]
   simp only [List.foldl_cons,List.foldl_nil]
   rw [<- ih']
   simp only [argBest]
   have a1:numAt xs (k + 1)=ns[k]:=by rw [at_]; simp [hk']
   split
   ·rename_i hgt
    have hgt:=of_decide_eq_true hgt
    rw [a1] at hgt ⊢
    omega
   ·rename_i hgt
    have hgt:¬ (numAt xs (k + 1) < _):=fun z=>hgt (decide_eq_true z)
    rw [a1] at hgt
    omega
 have hs:xs.size=(n :: ns).length:=by rw [<- h]; simp
 have:=key (xs.size - 1) (by rw [hs]; simp)
 rw [this,hs,List.take_of_length_le (by simp)]
theorem Yb0 (hc:X.calm=true):CallR X (.builtin "min") (fun xs H Q=>∃ p,∃ n:Int,∃ ns:List Int,xs=[.ref p]/\SqL X.K H p ((n :: ns).map V.int)/\Q (.int (ns.foldl min n)) H):=by
 intro pins s σ H xs us Q I r h
 obtain ⟨p,n,ns,rfl,hx,q⟩:=h
 obtain ⟨u,rfl,rx⟩:=vals1 r
 cases rx
 obtain ⟨its,rv,pl,hz⟩:=I.list hx
 obtain ⟨zs,e1,e2⟩:=Xh rv
 have hl:=pl.isList
 rw [e1] at hl
 have hs:zs.size=(n :: ns).length:=by rw [<- e2]; simp
 refine min_intList (I.ok.hd hc) hl (by rw [hs]; simp) fun v h' tk hv hk=>?_
 obtain ⟨t,rfl⟩:=intItems_at hv
 exact ⟨.int _,H,I.kept hk,⟨t,by rw [min_arg zs n ns e2]⟩,q⟩
theorem max_arg (xs:Array (Int×Tok)) (n:Int) (ns:List Int) (h:xs.toList.map (·.1)=n :: ns):numAt xs (argBest (fun i j=>decide (numAt xs i > numAt xs j)) (xs.size - 1))=ns.foldl max n:=by
 have key:∀ k,k < (n :: ns).length->numAt xs (argBest (fun i j=>decide (numAt xs i > numAt xs j)) k)=(ns.take k).foldl max n:=by
  intro k
  have at_:∀ i,numAt xs i=((n :: ns)[i]?).getD 0:=fun i=>by
   rw [<- h]; simp [numAt]
  induction k with
  | zero=>intro _; simp [argBest,at_]
  | succ k ih =>
   intro hk
   have ih':=ih (by omega)
   have hk':k < ns.length:=by simpa using hk
   have e:ns.take (k + 1)=ns.take k ++ [ns[k]]:=by rw [List.take_succ_eq_append_getElem hk']
   rw [e,List.foldl_append]
   simp only [List.foldl_cons,List.foldl_nil]
   rw [<- ih']
   simp only [argBest]
   have a1:numAt xs (k + 1)=ns[k]:=by rw [at_]; simp [hk']
   split
   ·rename_i hgt
    have hgt:=of_decide_eq_true hgt
    rw [a1] at hgt ⊢
    omega
   ·rename_i hgt
    have hgt:¬ (numAt xs (k + 1) > _):=fun z=>hgt (decide_eq_true z)
    rw [a1] at hgt
    omega
 have hs:xs.size=(n :: ns).length:=by rw [<- h]; simp
 have:=key (xs.size - 1) (by rw [hs]; simp)
 rw [this,hs,List.take_of_length_le (by simp)]
theorem Wb0 (hc:X.calm=true):CallR X (.builtin "max") (fun xs H Q=>∃ p,∃ n:Int,∃ ns:List Int,xs=[.ref p]/\SqL X.K H p ((n :: ns).map V.int)/\Q (.int (ns.foldl max n)) H):=by
 intro pins s σ H xs us Q I r h
 obtain ⟨p,n,ns,rfl,hx,q⟩:=h
 obtain ⟨u,rfl,rx⟩:=vals1 r
 cases rx
 obtain ⟨its,rv,pl,hz⟩:=I.list hx
 obtain ⟨zs,e1,e2⟩:=Xh rv
 have hl:=pl.isList
 rw [e1] at hl
 have hs:zs.size=(n :: ns).length:=by rw [<- e2]; simp
 refine max_intList (I.ok.hd hc) hl (by rw [hs]; simp) fun v h' tk hv hk=>?_
 obtain ⟨t,rfl⟩:=intItems_at hv
 exact ⟨.int _,H,I.kept hk,⟨t,by rw [max_arg zs n ns e2]⟩,q⟩
end
end DW
end
section
namespace DW
open PySem PySem.Spec PyProof.Rows L2
section
variable {X:Cx}
theorem Wba {P:Program} {w:World} (h:Heap):∀ {es:List DictEntry} {vs:List (Key×Value)},Pairs (Xe P w) es vs->∀ ks:List DKey,vs.map (·.1)=ks.map keyOf->ReadsAll h (es.map (·.key)) (ks.map keyP) []:=by
 intro es vs x
 induction x with
 | nil=>intro ks e; cases ks with
  | nil=>exact .nil
  | cons k ks=>cases e
 | @cons en kv es vs h1 h2 h3 ih =>
  intro ks e
  cases ks with
  | nil=>cases e
  | cons k ks =>
   obtain ⟨e1,e2⟩:=List.cons.inj e
   have e1:kv.1=keyOf k:=e1
   have r:Reads h en.key (keyP k) []:=by
    rcases Yd h1 with ⟨i,t,a,b⟩ | ⟨y,t,a,b⟩
    ·rw [b]
     rw [a] at e1
     cases k with
     | inl j=>injection e1 with e1; subst e1; exact .int _ _
     | inr j=>exact nomatch e1
    ·rw [b]
     rw [a] at e1
     cases k with
     | inl j=>exact nomatch e1
     | inr j=>injection e1 with e1; subst e1; exact .str _ _
   exact ReadsAll.cons (as:=[]) (bs:=[]) r (ih ks e2)
theorem Vbb {P:Program} {w:World}:∀ {es:List DictEntry} {vs:List (Key×Value)},Pairs (Xe P w) es vs->∀ kvs:List (Key×V),KV kvs vs->Vals (kvs.map (·.2)) (es.map (·.val))/\vs.map (·.1)=kvs.map (·.1):=by
 intro es vs x
 induction x with
 | nil=>intro kvs r; cases r; exact ⟨.nil,rfl⟩
 | @cons en kv es vs h1 h2 h3 ih =>
  intro kvs r
  cases r with
  | cons a b =>
   obtain ⟨c,d⟩:=ih _ b
   refine ⟨.cons (show RelV _ en.val by rw [h2]; exact a.2) c,?_⟩
   rw [List.map_cons,List.map_cons,d,a.1]
theorem readsAll_len {h:Heap}:∀ (vs:List Value) (ps:List PyData) (as:List Addr),ReadsAll h vs ps as->vs.length=ps.length
 | _,_,_,.nil=>rfl
 | _,_,_,.cons _ r=>by rw [List.length_cons,List.length_cons,readsAll_len _ _ _ r]
theorem Xau {α:Type} {x:α} {as bs:List α} (h1:x ∉ as) (h2:x ∉ bs):x ∉ as ++ bs:=fun h=>(List.mem_append.mp h).elim h1 h2
theorem Xbn {pins:List (Addr×Obj)} {s:Shared} {σ:L2.St} {H:Hp} {θ:List Addr} {μ:Mem} (I:Inv X pins σ H s) (wk:WOk X.K H θ μ) :
  ∀ (n:Nat) (d:D) (v:V) (u:Value) (p:PyData),Rp X.K H θ μ d v->RelV v u->datM μ n d=some p->∃ as,Reads s.heap u p as/\sysModules ∉ as:=by
 have sysD:∃ o es ep,s.heap.get? sysModules=some o/\o.data = .dict es ep:=by
  obtain ⟨mm,o,es,ep,e,dd,_⟩:=I.mod.sysm
  exact ⟨o,es,ep,I.bk _ _ e,dd⟩
 have lf:∀ (d:D) (v:V) (u:Value) (p:PyData),Rp X.K H θ μ d v->RelV v u->datM μ 0 d=some p->∃ as,Reads s.heap u p as/\sysModules ∉ as:=by
  intro d v u p r ru h
  cases d with
  | non=>cases Xj r; cases (show u=Value.none from ru); cases h; exact ⟨_,.none,List.not_mem_nil⟩
  | bl b=>cases Vf r; cases (show u=Value.bool b from ru); cases h; exact ⟨_,.bool b,List.not_mem_nil⟩
  | int i=>cases Yb r; obtain ⟨t,rfl⟩:=(show ∃ t,u=Value.int i t from ru); cases h; exact ⟨_,.int i t,List.not_mem_nil⟩
  | str x=>cases (Zd r).1; obtain ⟨t,rfl⟩:=(show ∃ t,u=Value.str ⟨x.toArray⟩ t from ru); cases h; exact ⟨_,.str _ t,List.not_mem_nil⟩
  | _=>cases h
 intro n
 induction n with
 | zero=>exact lf
 | succ n ih =>
  have all:∀ (ds:List D) (xs:List V) (its:List Value) (ps:List PyData),Rps X.K H θ μ ds xs->Vals xs its->allS (ds.map (datM μ n))=some ps->∃ as,ReadsAll s.heap its ps as/\sysModules ∉ as:=by
   intro ds
   induction ds with
   | nil =>
    intro xs its ps r rv h
    cases r.nil_inv
    cases rv
    cases h
    exact ⟨_,.nil,List.not_mem_nil⟩
   | cons d ds ih2 =>
    intro xs its ps r rv h
    obtain ⟨v,vs,rfl,r1,r2⟩:=r.cons_inv
    cases rv with
    | cons ru rus =>
     rw [List.map_cons] at h
     cases q:datM μ n d with
     | none=>rw [q] at h; cases h
     | some p =>
      rw [q] at h
      cases q2:allS (ds.map (datM μ n)) with
      | none=>rw [allS,q2] at h; cases h
      | some ps2 =>
       rw [allS,q2] at h
       cases h
       obtain ⟨as1,b1,c1⟩:=ih d v _ p r1 ru q
       obtain ⟨as2,b2,c2⟩:=ih2 vs _ ps2 r2 rus q2
       exact ⟨_,.cons b1 b2,Xau c1 c2⟩
  have lst:∀ (ds:List D) (xs:List V) (a:Addr) (p:PyData),SqL X.K H a xs->Rps X.K H θ μ ds xs->(allS (ds.map (datM μ n))).map PyData.list=some p->∃ as,Reads s.heap (.ref a) p as/\sysModules ∉ as:=by
   intro ds xs a p hx rs h
   cases q:allS (ds.map (datM μ n)) with
   | none=>rw [q] at h; cases h
   | some ps =>
    rw [q] at h
    cases h
    obtain ⟨its,vi,pl,hz⟩:=I.list hx
    obtain ⟨as1,b1,c1⟩:=all ds xs its ps rs vi q
    obtain ⟨o,e,c,k,dd⟩:=pl.isList
    refine ⟨_,.list e c dd (by simpa using b1),fun hm=>?_⟩
    rcases List.mem_cons.mp hm with z | z
    ·obtain ⟨o2,es,ep,e2,d2⟩:=sysD
     rw [z,e] at e2
     cases e2
     rw [dd] at d2
     cases d2
    ·exact c1 z
  have dct:∀ (ks:List DKey) (ds:List D) (kvs:List (Key×V)) (a:Addr) (p:PyData),H a=some (.dK kvs)->kvs.map (·.1)=ks.map keyOf->Rps X.K H θ μ ds (kvs.map (·.2))->(allS (ds.map (datM μ n))).map (dctP ks)=some p->∃ as,Reads s.heap (.ref a) p as/\sysModules ∉ as:=by
   intro ks ds kvs a p hx hk rs h
   cases q:allS (ds.map (datM μ n)) with
   | none=>rw [q] at h; cases h
   | some ps =>
    rw [q] at h
    cases h
    obtain ⟨hz,hs,vs,r,o,es,ep,e,x,dd,_,pr,_⟩:kvs.length<=sizeLine/\(a == sysModules)=false/\∃ vs,KV kvs vs/\s.heap.DictOf (Xe X.prog X.w) a vs:=I.hok a _ hx
    obtain ⟨rv,ek⟩:=Vbb pr kvs r
    have rk:=Wba s.heap pr ks (ek.trans hk)
    obtain ⟨as1,b1,c1⟩:=all ds _ _ ps rs rv q
    have l1:=readsAll_len _ _ _ rk
    have l2:=readsAll_len _ _ _ b1
    rw [List.length_map] at l1 l2
    have z1:((ks.map keyP).zip ps).map (·.1)=ks.map keyP:=List.map_fst_zip (by omega)
    have z2:((ks.map keyP).zip ps).map (·.2)=ps:=List.map_snd_zip (by omega)
    refine ⟨_,.dict (as:=[]) (bs:=as1) e x.1 dd (by rw [z1]; exact rk) (by rw [z2]; exact b1),fun hm=>?_⟩
    rcases List.mem_cons.mp hm with z | z
    ·rw [z] at hs
     simp at hs
    ·exact c1 (by simpa using z)
  intro d v u p r ru h
  cases d with
  | non=>exact lf .non v u p r ru h
  | bl b=>exact lf (.bl b) v u p r ru h
  | int i=>exact lf (.int i) v u p r ru h
  | str x=>exact lf (.str x) v u p r ru h
  | tup ds =>
   obtain ⟨a,xs,rfl,h1,_,rs⟩:=Ze r
   cases (show u=Value.ref a from ru)
   rw [datM] at h
   cases q:allS (ds.map (datM μ n)) with
   | none=>rw [q] at h; cases h
   | some ps =>
    rw [q] at h
    cases h
    obtain ⟨its,vi,⟨o,e,c,k,dd⟩,hz⟩:=I.tuple (SqT.of h1)
    obtain ⟨as1,b1,c1⟩:=all ds xs its ps rs vi q
    exact ⟨_,.tuple e c dd (by simpa using b1),c1⟩
  | lst ds =>
   obtain ⟨a,xs,rfl,h1,_,rs⟩:=Yg r
   cases (show u=Value.ref a from ru)
   exact lst ds xs a p (.of h1) rs h
  | dic ks ds =>
   obtain ⟨a,kvs,rfl,h1,_,h2,rs⟩:=V6 r
   cases (show u=Value.ref a from ru)
   exact dct ks ds kvs a p h1 h2 rs h
  | loc k =>
   rw [datM] at h
   cases q:μ[k]? with
   | none=>rw [q] at h; cases h
   | some c =>
    rw [q] at h
    cases c with
    | lst ds =>
     obtain ⟨a,rfl,ha⟩:=Xc r
     cases (show u=Value.ref a from ru)
     obtain ⟨ys,e,rs⟩:=wk.list q ha
     exact lst ds ys a p (.of e) rs h
    | dic ks ds =>
     obtain ⟨a,rfl,ha⟩:=Xc r
     cases (show u=Value.ref a from ru)
     obtain ⟨kvs,e,e2,rs⟩:=wk.cell k _ a q ha
     exact dct ks ds kvs a p e e2 rs h
    | _=>cases h
  | _=>cases h
theorem Ybn {k:Nat} {pins:List (Addr×Obj)} {s:Shared} {σ:L2.St} {H:Hp} {θ:List Addr} {μ:Mem} {d:D} {v:V} {u:Value} {Qd:QD} {Q:VK} {E:Value->Shared->Prop} (I:Inv X pins σ H s) (hr:Room k X.A) (wk:WOk X.K H θ μ) (rd:Rp X.K H θ μ d v) (ru:RelV v u) (hw:wRpr d μ Qd) (f:Fin X.K H θ μ Qd Q) :
  wpAny (model X.prog X.w) X.A (call (.builtin "repr") [u]) (fun r s'=>∃ v H',Inv X pins σ H' s'/\RelV v r/\Q v H') E s:=by
 obtain ⟨h0,nn,p,h1,h2,h3,h4,h5,q⟩:=hw
 have hlen:p.shown.length<=sizeLine:=by
  have:=PyData.shown_le 60 (by decide) p h3
  have e:sizeLine=16777216:=sizeLine_eq
  omega
 have hun:=hr.un
 have fin:∀ (h':Heap) (t:Tok) (tk:Nat),(∀ b o,s.heap.get? b=some o->h'.get? b=some o)->∃ v H',Inv X pins σ H' { s with heap:=h',toks:=tk }/\RelV v (.str p.shown t)/\Q v H':=fun h' t tk hk =>
  ⟨.str p.shown,H,I.kept hk,⟨t,rfl⟩,by
   have:=f.at wk (Vab (x:=p.shown.cps.toList) (by simpa [Str.length] using hlen)) q
   simpa using this⟩
 obtain ⟨as,b1,a1⟩:=Xbn I wk nn d v u p rd ru h1
 cases d with
 | int i =>
  cases Yb rd
  obtain ⟨t,rfl⟩:=(show ∃ t,u=Value.int i t from ru)
  obtain rfl:PyData.int i=p:=by cases nn <;> exact Option.some.inj h1
  refine PySem.P.repr_of_int (by simpa [PyData.showable] using h2) ?_
  exact fin s.heap _ _ fun b o e=>e
 | str x =>
  cases (Zd rd).1
  obtain ⟨t,rfl⟩:=(show ∃ t,u=Value.str ⟨x.toArray⟩ t from ru)
  obtain rfl:PyData.str ⟨x.toArray⟩=p:=by cases nn <;> exact Option.some.inj h1
  exact PySem.P.repr_of_str (fin s.heap _ _ fun b o e=>e) hlen
 | bl b =>
  cases Vf rd
  cases (show u=Value.bool b from ru)
  obtain rfl:PyData.bool b=p:=by cases nn <;> exact Option.some.inj h1
  exact PySem.P.repr_of_bool (by cases b <;> exact fin s.heap _ _ fun b o e=>e)
 | non =>
  cases Xj rd
  cases (show u=Value.none from ru)
  obtain rfl:PyData.none=p:=by cases nn <;> exact Option.some.inj h1
  exact PySem.P.repr_of_none (fin s.heap _ _ fun b o e=>e)
 | tup ds =>
  obtain ⟨a,xs,rfl,_⟩:=Ze rd
  cases (show u=Value.ref a from ru)
  exact repr_of_reads' b1 h2 (fun _=>a1) hr.gd (by omega) (fun b o e=>e) (fun h' u tk hk=>fin h' u tk hk) hlen
 | lst ds =>
  obtain ⟨a,xs,rfl,_⟩:=Yg rd
  cases (show u=Value.ref a from ru)
  exact repr_of_reads' b1 h2 (fun _=>a1) hr.gd (by omega) (fun b o e=>e) (fun h' u tk hk=>fin h' u tk hk) hlen
 | dic ks ds =>
  obtain ⟨a,kvs,rfl,_⟩:=V6 rd
  cases (show u=Value.ref a from ru)
  exact repr_of_reads' b1 h2 (fun _=>a1) hr.gd (by omega) (fun b o e=>e) (fun h' u tk hk=>fin h' u tk hk) hlen
 | loc n =>
  obtain ⟨a,rfl,_⟩:=Xc rd
  cases (show u=Value.ref a from ru)
  exact repr_of_reads' b1 h2 (fun _=>a1) hr.gd (by omega) (fun b o e=>e) (fun h' u tk hk=>fin h' u tk hk) hlen
 | _=>cases h0
end
end DW
end
section
namespace DW
open PySem PySem.W PyProof.Rows
noncomputable def krun {α:Type} (lt:Nat->Nat->Bool):KasT α->α
 | .ret a=>a
 | .ask i j k=>krun lt (k (lt i j))
theorem Wm {α β:Type} (lt:Nat->Nat->Bool) (f:α->KasT β):∀ t:KasT α,krun lt (t.bind f)=krun lt (f (krun lt t))
 | .ret a=>rfl
 | .ask i j k=>Wm lt f (k (lt i j))
noncomputable abbrev at' (p:Array Nat) (k:Nat):Nat:=p.getD k 0
theorem Za0 (p:Array Nat) (k:Nat):at' p k=p[k]?.getD 0:=by simp [at']
theorem Xar {p:Array Nat} {i j:Nat} (hj:j<=p.size) (k:Nat):at' (kas_rev p i j) k=if i<=k/\k < j then at' p (i + j - 1 - k) else at' p k:=by
 rw [Za0,kas_rev,getElem?_mirror_all hj]
 split <;> rw [Za0]
theorem at_bub {p:Array Nat} {s d:Nat} (hs:s < p.size) (hd:d<=s) (k:Nat):at' (bubble p s d) k=if k=s - d then at' p s else if s - d < k/\k<=s then at' p (k - 1) else at' p k:=by
 rw [Za0,getElem?_bubble hs d hd,Za0,Za0,Za0]
 by_cases h1:k=s - d
 ·rw [if_pos h1,if_pos h1]
 ·rw [if_neg h1,if_neg h1]
  by_cases h2:s - d < k/\k<=s
  ·rw [if_pos h2,if_pos h2]
  ·rw [if_neg h2,if_neg h2]
theorem X3 (p:Array Nat) (i j:Nat):(kas_rev p i j).size=p.size:=mirror_size _ _ _ _
theorem Yk (p:Array Nat) (i j:Nat):(kas_rev p i j).Perm p:=mirror_perm _ _ _ _
section
variable {lt:Nat->Nat->Bool} (hA:∀ a b,lt a b=true->lt b a=false) (hT:∀ a b c,lt b a=false->lt c b=false->lt c a=false)
noncomputable def Up (lt:Nat->Nat->Bool) (p:Array Nat) (m:Nat):Prop:=∀ i,i + 1 < m->lt (at' p (i + 1)) (at' p i)=false
noncomputable def Down (lt:Nat->Nat->Bool) (p:Array Nat) (m:Nat):Prop:=∀ i,i + 1 < m->lt (at' p i) (at' p (i + 1))=false
noncomputable def Tie (lt:Nat->Nat->Bool) (a b:Nat):Prop:=lt a b=false/\lt b a=false
include hT in
theorem Up.le {p:Array Nat} {m:Nat} (h:Up lt p m) (hirr:∀ a,lt a a=false):∀ (d i:Nat),i + d < m->lt (at' p (i + d)) (at' p i)=false
 | 0,i,_=>hirr _
 | d + 1,i,hd=>hT _ _ _ (Up.le h hirr d i (by omega)) (h (i + d) (by omega))
include hA in
theorem Va4 (a:Nat):lt a a=false:=by
 cases h:lt a a with
 | false=>rfl
 | true=>rw [<- h]; exact hA a a h
include hT in
theorem Tie.trans {a b c:Nat} (h:Tie lt a b) (k:Tie lt b c):Tie lt a c:=⟨hT c b a k.1 h.1,hT a b c h.2 k.2⟩
theorem Tie.symm {a b:Nat} (h:Tie lt a b):Tie lt b a:=⟨h.2,h.1⟩
theorem Ya0 {p:Array Nat}:∀ (f n:Nat),1<=n->n<=krun lt (kas_asc p f n)/\krun lt (kas_asc p f n)<=n + f/\(∀ i,n<=i->i < krun lt (kas_asc p f n)->lt (at' p i) (at' p (i - 1))=false) /\
  (krun lt (kas_asc p f n) < n + f->lt (at' p (krun lt (kas_asc p f n))) (at' p (krun lt (kas_asc p f n) - 1))=true)
 | 0,n,_=>⟨Nat.le_refl _,Nat.le_refl _,fun i h1 h2=>by simp [kas_asc,krun] at h2; omega,fun h=>by simp [kas_asc,krun] at h⟩
 | f + 1,n,h1=>by
  cases c:lt (at' p n) (at' p (n - 1)) with
  | true =>
   have e:krun lt (kas_asc p (f + 1) n)=n:=by
    show krun lt (if lt (at' p n) (at' p (n - 1))=true then .ret n else kas_asc p f (n + 1))=n
    rw [c]; rfl
   rw [e]
   exact ⟨Nat.le_refl _,by omega,fun i h1 h2=>by omega,fun _=>c⟩
  | false =>
   have e:krun lt (kas_asc p (f + 1) n)=krun lt (kas_asc p f (n + 1)):=by
    show krun lt (if lt (at' p n) (at' p (n - 1))=true then .ret n else kas_asc p f (n + 1))=_
    rw [c]; rfl
   rw [e]
   obtain ⟨a1,a2,a3,a4⟩:=Ya0 (p:=p) f (n + 1) (by omega)
   refine ⟨by omega,by omega,fun i h2 h3=>?_,fun h=>a4 (by omega)⟩
   by_cases q:i=n
   ·subst q; exact c
   ·exact a3 i (by omega) h3
structure DescOk (lt:Nat->Nat->Bool) (p0:Array Nat) (top:Nat) (r:Array Nat×Nat×Nat):Prop where
 perm:r.1.Perm p0
 size:r.1.size=p0.size
 le:r.2.1<=top
 pos:r.2.2 + 1<=r.2.1
 down:Down lt r.1 r.2.1
 tie:∀ i,r.2.1 - (r.2.2 + 1)<=i->i < r.2.1->Tie lt (at' r.1 i) (at' r.1 (r.2.1 - 1))
include hT in
theorem Vat {p:Array Nat} {n q:Nat} (hn:n<=p.size) (hq:q + 1<=n) (ht:∀ i,n - (q + 1)<=i->i < n->Tie lt (at' p i) (at' p (n - 1))) (hirr:∀ a,lt a a=false) (k:Nat) :
  Tie lt (at' (kas_rev p (n - (q + 1)) n) k) (at' p k):=by
 rw [Xar hn]
 split
 ·rename_i h
  exact Tie.trans hT (ht _ (by omega) (by omega)) (Tie.symm (ht k h.1 h.2))
 ·exact ⟨hirr _,hirr _⟩
include hT in
theorem Down.like {p p':Array Nat} {n:Nat} (h:Down lt p n) (k:∀ i,i < n->Tie lt (at' p' i) (at' p i)):Down lt p' n:=fun i hi =>
 hT _ _ _ (hT _ _ _ (k (i + 1) hi).2 (h i hi)) (k i (by omega)).1
include hA hT in
theorem Z4 {p0:Array Nat} {top:Nat} (htop:top<=p0.size):∀ (f:Nat) (p:Array Nat) (n q:Nat),n + f=top->DescOk lt p0 top (p,n,q)->DescOk lt p0 top (krun lt (kas_desc f p n q))
 | 0,p,n,q,_,h=>h
 | f + 1,p,n,q,hn,h=>by
  have hirr:=Va4 hA
  obtain ⟨h1,h2,h3,h4,h5,h6⟩:=h
  simp only at h1 h2 h3 h4 h5 h6
  have hsz:n<=p.size:=by omega
  cases c:lt (at' p n) (at' p (n - 1)) with
  | true =>
   have e:krun lt (kas_desc (f + 1) p n q)=krun lt (if q > 0 then kas_desc f (kas_rev p (n - (q + 1)) n) (n + 1) 0 else kas_desc f p (n + 1) 0):=by
    show krun lt (if lt (at' p n) (at' p (n - 1))=true then _ else _)=_
    rw [c]; rfl
   rw [e]
   have dn:∀ p':Array Nat,p'.Perm p0->p'.size=p0.size->(∀ i,Tie lt (at' p' i) (at' p i))->at' p' n=at' p n->DescOk lt p0 top (p',n + 1,0):=fun p' q1 q2 q3 q4=>by
    refine ⟨q1,q2,by simp; omega,by simp,fun i hi=>?_,fun i a1 a2=>?_⟩
    ·simp only at hi ⊢
     by_cases z:i + 1 < n
     ·exact Down.like hT h5 (fun i _=>q3 i) i z
     ·have z1:i + 1=n:=by omega
      have z2:i=n - 1:=by omega
      rw [z1,q4,z2]
      exact hT _ _ _ (hA _ _ c) (q3 (n - 1)).1
    ·simp only at a1 a2 ⊢
     have:i=n:=by omega
     subst this
     exact ⟨hirr _,hirr _⟩
   by_cases hq:q > 0
   ·rw [if_pos hq]
    refine Z4 htop f _ (n + 1) 0 (by omega) (dn _ ((Yk _ _ _).trans h1) (by rw [X3]; exact h2) (Vat hT hsz h4 h6 hirr) ?_)
    rw [Xar hsz,if_neg (by omega)]
   ·rw [if_neg hq]
    exact Z4 htop f _ (n + 1) 0 (by omega) (dn _ h1 h2 (fun i=>⟨hirr _,hirr _⟩) rfl)
  | false =>
   cases d:lt (at' p (n - 1)) (at' p n) with
   | true =>
    have e:krun lt (kas_desc (f + 1) p n q)=(p,n,q):=by
     show krun lt (if lt (at' p n) (at' p (n - 1))=true then _ else _)=_
     rw [c]
     show krun lt (if lt (at' p (n - 1)) (at' p n)=true then _ else _)=_
     rw [d]; rfl
    rw [e]
    exact ⟨h1,h2,h3,h4,h5,h6⟩
   | false =>
    have e:krun lt (kas_desc (f + 1) p n q)=krun lt (kas_desc f p (n + 1) (q + 1)):=by
     show krun lt (if lt (at' p n) (at' p (n - 1))=true then _ else _)=_
     rw [c]
     show krun lt (if lt (at' p (n - 1)) (at' p n)=true then _ else _)=_
     rw [d]; rfl
    rw [e]
    refine Z4 htop f _ (n + 1) (q + 1) (by omega) ⟨h1,h2,by simp; omega,by simp; omega,fun i hi=>?_,fun i a1 a2=>?_⟩
    ·simp only at hi ⊢
     by_cases z:i + 1 < n
     ·exact h5 i z
     ·have z1:i + 1=n:=by omega
      have z2:i=n - 1:=by omega
      rw [z1,z2]; exact d
    ·simp only at a1 a2 ⊢
     by_cases z:i=n
     ·subst z; exact ⟨hirr _,hirr _⟩
     ·exact Tie.trans hT (h6 i (by omega) (by omega)) ⟨d,c⟩
structure CountOk (lt:Nat->Nat->Bool) (p0:Array Nat) (n:Nat) (r:Nat×Array Nat):Prop where
 perm:r.2.Perm p0
 size:r.2.size=p0.size
 le:r.1<=n
 pos:1<=r.1
 up:Up lt r.2 r.1
theorem Vak {p0 p:Array Nat} {n nrem:Nat} (h1:1<=n) (hn:n<=nrem) (hz:nrem<=p0.size) (hp:p.Perm p0) (hs:p.size=p0.size) (hd:Down lt p n):CountOk lt p0 nrem (krun lt (kas_tail3 n nrem p)):=by
 unfold kas_tail3
 rw [Wm]
 obtain ⟨a1,a2,a3,_⟩:=Ya0 (lt:=lt) (p:=kas_rev p 0 n) (nrem - n) n h1
 refine ⟨(Yk _ _ _).trans hp,by rw [show (krun lt (KasT.ret (krun lt (kas_asc (kas_rev p 0 n) (nrem - n) n),kas_rev p 0 n))).2=kas_rev p 0 n from rfl,X3]; exact hs,by show krun lt _<=_; omega,by show 1<=krun lt _; omega,fun i hi=>?_⟩
 replace hi:i + 1 < krun lt (kas_asc (kas_rev p 0 n) (nrem - n) n):=hi
 show lt (at' (kas_rev p 0 n) (i + 1)) (at' (kas_rev p 0 n) i)=false
 by_cases z:n<=i + 1
 ·exact a3 (i + 1) z hi
 ·rw [Xar (by omega),Xar (by omega),if_pos (by omega),if_pos (by omega)]
  have:=hd (n - 1 - (i + 1)) (by omega)
  have e1:n - 1 - (i + 1) + 1=0 + n - 1 - i:=by omega
  have e2:n - 1 - (i + 1)=0 + n - 1 - (i + 1):=by omega
  rw [e1,e2] at this
  exact this
include hA hT in
theorem W0 {p0 p:Array Nat} {n nrem:Nat} (hn:n + 1<=nrem) (hz:nrem<=p0.size) (hp:p.Perm p0) (hs:p.size=p0.size) (hd:Down lt p (n + 1)):CountOk lt p0 nrem (krun lt (kas_descPart n nrem p)):=by
 unfold kas_descPart
 rw [Wm]
 have hirr:=Va4 hA
 have D:=Z4 hA hT hz (nrem - (n + 1)) p (n + 1) 0 (by omega) ⟨hp,hs,by simp; omega,by simp,hd,fun i a1 a2=>by
  simp only at a1 a2 ⊢
  have:i=n:=by omega
  subst this; exact ⟨hirr _,hirr _⟩⟩
 generalize krun lt (kas_desc (nrem - (n + 1)) p (n + 1) 0)=r at D
 obtain ⟨p2,m,q⟩:=r
 obtain ⟨h1,h2,h3,h4,h5,h6⟩:=D
 simp only at h1 h2 h3 h4 h5 h6 ⊢
 have hsz:m<=p2.size:=by omega
 by_cases hq:q > 0
 ·rw [if_pos hq]
  exact Vak (by omega) h3 hz ((Yk _ _ _).trans h1) (by rw [X3]; exact h2) (Down.like hT h5 fun i _=>Vat hT hsz h4 h6 hirr i)
 ·rw [if_neg hq]
  exact Vak (by omega) h3 hz h1 h2 h5
include hA hT in
theorem Xbz {p0:Array Nat} {nrem:Nat} (h1:1<=nrem) (hz:nrem<=p0.size):CountOk lt p0 nrem (krun lt (kas_count nrem p0)):=by
 unfold kas_count
 rw [Wm]
 have hirr:=Va4 hA
 obtain ⟨a1,a2,a3,a4⟩:=Ya0 (lt:=lt) (p:=p0) (nrem - 1) 1 (Nat.le_refl _)
 generalize krun lt (kas_asc p0 (nrem - 1) 1)=n at a1 a2 a3 a4
 have up:Up lt p0 n:=fun i hi=>by simpa using a3 (i + 1) (by omega) hi
 by_cases e:(n == nrem)=true
 ·rw [if_pos e]
  exact ⟨.refl _,rfl,by show n<=_; omega,a1,up⟩
 ·rw [if_neg e]
  have e':n≠nrem:=by simpa using e
  have ht:=a4 (by omega)
  by_cases hn:n > 1
  ·rw [if_pos hn]
   cases c:lt (at' p0 0) (at' p0 (n - 1)) with
   | true =>
    show CountOk lt p0 nrem (krun lt (if lt (at' p0 0) (at' p0 (n - 1))=true then _ else _))
    rw [c]
    exact ⟨.refl _,rfl,by show n<=_; omega,a1,up⟩
   | false =>
    show CountOk lt p0 nrem (krun lt (if lt (at' p0 0) (at' p0 (n - 1))=true then _ else _))
    rw [c]
    have hsz:n<=p0.size:=by omega
    have le:=fun d i h=>Up.le hT up hirr d i h
    have tie:∀ i,n - (n - 1 + 1)<=i->i < n->Tie lt (at' p0 i) (at' p0 (n - 1)):=fun i _ hi=>by
     have b1:=le (n - 1 - i) i (by omega)
     have b2:=le i 0 (by omega)
     rw [show i + (n - 1 - i)=n - 1 by omega] at b1
     rw [show 0 + i=i by omega] at b2
     exact ⟨hT _ _ _ c b2,b1⟩
    have r0:=fun i=>Vat hT hsz (q:=n - 1) (by omega) tie hirr i
    rw [show n - (n - 1 + 1)=0 by omega] at r0
    refine W0 hA hT (by omega) hz (Yk _ _ _) (X3 _ _ _) fun i hi=>?_
    by_cases z:i + 1=n
    ·have z2:at' (kas_rev p0 0 n) n=at' p0 n:=by rw [Xar hsz,if_neg (by omega)]
     have z3:i=n - 1:=by omega
     rw [z,z2,z3]
     exact hT _ _ _ (hA _ _ ht) (r0 (n - 1)).1
    ·have t1:=Tie.trans hT (Tie.trans hT (r0 i) (tie i (by omega) (by omega))) (Tie.symm (Tie.trans hT (r0 (i + 1)) (tie (i + 1) (by omega) (by omega))))
     exact t1.1
  ·rw [if_neg hn]
   have n1:n=1:=by omega
   subst n1
   refine W0 hA hT (by omega) hz (.refl _) rfl fun i hi=>?_
   have:i=0:=by omega
   subst this
   exact hA _ _ ht
include hA hT in
theorem Z5 {p:Array Nat} {k:Nat} (up:Up lt p k):∀ (f l r:Nat),l<=r->r<=k->r - l<=f->(∀ i,i < l->lt (at' p k) (at' p i)=false)->(∀ i,r<=i->i < k->lt (at' p k) (at' p i)=true) ->
  krun lt (kas_place p k f l r)<=k/\(∀ i,i < krun lt (kas_place p k f l r)->lt (at' p k) (at' p i)=false)/\∀ i,krun lt (kas_place p k f l r)<=i->i < k->lt (at' p k) (at' p i)=true
 | 0,l,r,h1,h2,h3,h4,h5=>by
  have:l=r:=by omega
  subst this
  exact ⟨h2,h4,h5⟩
 | f + 1,l,r,h1,h2,h3,h4,h5=>by
  have hirr:=Va4 hA
  have le:=fun d i h=>Up.le hT up hirr d i h
  by_cases z:l ≥ r
  ·have:l=r:=by omega
   subst this
   unfold kas_place
   rw [if_pos z]
   exact ⟨h2,h4,h5⟩
  ·have e:krun lt (kas_place p k (f + 1) l r)=krun lt (if lt (at' p k) (at' p ((l + r) / 2))=true then kas_place p k f l ((l + r) / 2) else kas_place p k f ((l + r) / 2 + 1) r):=by
    rw [kas_place,if_neg z]; rfl
   rw [e]
   generalize hm:(l + r) / 2=m
   have m1:l<=m:=by omega
   have m2:m < r:=by omega
   cases c:lt (at' p k) (at' p m) with
   | true =>
    rw [if_pos rfl]
    refine Z5 up f l m m1 (by omega) (by omega) h4 fun i b1 b2=>?_
    cases q:lt (at' p k) (at' p i) with
    | true=>rfl
    | false =>
     have b3:=le (i - m) m (by omega)
     rw [show m + (i - m)=i by omega] at b3
     have:=hT _ _ _ b3 q
     rw [c] at this; cases this
   | false =>
    rw [if_neg (by simp)]
    refine Z5 up f (m + 1) r (by omega) h2 (by omega) (fun i b1=>?_) h5
    have b3:=le (m - i) i (by omega)
    rw [show i + (m - i)=m by omega] at b3
    exact hT _ _ _ b3 c
include hA hT in
theorem Wb2 {p0:Array Nat} {n:Nat} (hn:n<=p0.size):∀ (f:Nat) (p:Array Nat) (k:Nat),k + f=n->p.Perm p0->p.size=p0.size->Up lt p k->(krun lt (kas_bin f p k)).Perm p0/\Up lt (krun lt (kas_bin f p k)) n
 | 0,p,k,h,h1,h2,h3=>by
  have:k=n:=by omega
  subst this
  exact ⟨h1,h3⟩
 | f + 1,p,k,h,h1,h2,h3=>by
  have e:krun lt (kas_bin (f + 1) p k)=krun lt (kas_bin f (bubble p k (k - krun lt (kas_place p k k 0 k))) (k + 1)):=by
   show krun lt (KasT.bind _ _)=_
   rw [Wm]
  rw [e]
  obtain ⟨b1,b2,b3⟩:=Z5 hA hT h3 k 0 k (Nat.zero_le _) (Nat.le_refl _) (by omega) (fun i hi=>by omega) (fun i x y=>by omega)
  generalize krun lt (kas_place p k k 0 k)=t at b1 b2 b3
  refine Wb2 hn f _ (k + 1) (by omega) ((bubble_perm _ _ _).trans h1) ((bubble_size _ _ _).trans h2) fun i hi=>?_
  have hk:k < p.size:=by omega
  rw [at_bub hk (by omega),at_bub hk (by omega),show k - (k - t)=t by omega]
  by_cases z1:i + 1=t
  ·rw [if_pos z1,if_neg (by omega),if_neg (by omega)]
   exact b2 i (by omega)
  ·rw [if_neg z1]
   by_cases z2:i=t
   ·subst z2
    rw [if_pos rfl,if_pos (by omega)]
    exact hA _ _ (b3 i (Nat.le_refl _) (by omega))
   ·rw [if_neg z2]
    by_cases z3:t < i
    ·rw [if_pos (by omega),if_pos (by omega)]
     have:=h3 (i - 1) (by omega)
     rw [show i - 1 + 1=i by omega] at this
     exact this
    ·rw [if_neg (by omega),if_neg (by omega)]
     exact h3 i (by omega)
include hA hT in
theorem Wb7 {n:Nat} (h1:1<=n):(krun lt (kas_sort n)).Perm (List.toArray (List.range n))/\Up lt (krun lt (kas_sort n)) n:=by
 unfold kas_sort
 rw [Wm]
 have C:=Xbz (lt:=lt) hA hT (p0:=List.toArray (List.range n)) h1 (by simp)
 generalize krun lt (kas_count n (List.toArray (List.range n)))=r at C
 by_cases z:r.1 < n
 ·rw [if_pos z]
  have:max r.1 1=r.1:=by have:=C.pos; omega
  rw [this]
  exact Wb2 hA hT (by simp) (n - r.1) r.2 r.1 (by omega) C.perm C.size C.up
 ·rw [if_neg z]
  have:r.1=n:=by have:=C.le; omega
  exact ⟨C.perm,this ▸ C.up⟩
end
noncomputable def Asks {α:Type} (n:Nat) (R:α->Prop):KasT α->Prop
 | .ret a=>R a
 | .ask i j k=>i < n/\j < n/\∀ b,Asks n R (k b)
theorem Asks.bind {α β:Type} {n:Nat} {R:α->Prop} {R':β->Prop} {f:α->KasT β}:∀ {t:KasT α},Asks n R t->(∀ a,R a->Asks n R' (f a))->Asks n R' (t.bind f)
 | .ret a,h,k=>k a h
 | .ask i j t,h,k=>⟨h.1,h.2.1,fun b=>Asks.bind (h.2.2 b) k⟩
noncomputable def Bel (n:Nat) (p:Array Nat):Prop:=0 < n/\∀ x∈p,x < n
theorem Bel.at {n:Nat} {p:Array Nat} (h:Bel n p) (k:Nat):at' p k < n:=by
 rw [Za0]
 cases e:p[k]? with
 | none=>exact h.1
 | some x=>exact h.2 x (Array.mem_of_getElem? e)
theorem Bel.perm {n:Nat} {p q:Array Nat} (h:Bel n p) (k:q.Perm p):Bel n q:=⟨h.1,fun x hx=>h.2 x (k.mem_iff.mp hx)⟩
theorem Zaj {n:Nat} {p:Array Nat} (h:Bel n p):∀ (f m:Nat),Asks n (fun _=>True) (kas_asc p f m)
 | 0,m=>trivial
 | f + 1,m=>⟨h.at _,h.at _,fun b=>by
  cases b with
  | true=>exact trivial
  | false=>exact Zaj h f (m + 1)⟩
theorem Yx {n:Nat}:∀ (f:Nat) (p:Array Nat) (m q:Nat),Bel n p->Asks n (fun r=>Bel n r.1) (kas_desc f p m q)
 | 0,p,m,q,h=>h
 | f + 1,p,m,q,h=>⟨h.at _,h.at _,fun b=>by
  cases b with
  | true =>
   show Asks n _ (if q > 0 then kas_desc f (kas_rev p (m - (q + 1)) m) (m + 1) 0 else kas_desc f p (m + 1) 0)
   split
   ·exact Yx f _ _ _ (h.perm (Yk _ _ _))
   ·exact Yx f _ _ _ h
  | false=>exact ⟨h.at _,h.at _,fun d=>by
    cases d with
    | true=>exact h
    | false=>exact Yx f p (m + 1) (q + 1) h⟩⟩
theorem Xab {n m nrem:Nat} {p:Array Nat} (h:Bel n p):Asks n (fun r=>Bel n r.2) (kas_tail3 m nrem p) :=
 Asks.bind (Zaj (h.perm (Yk p 0 m)) _ _) fun _ _=>h.perm (Yk p 0 m)
theorem Xx {n m nrem:Nat} {p:Array Nat} (h:Bel n p):Asks n (fun r=>Bel n r.2) (kas_descPart m nrem p) :=
 Asks.bind (Yx _ p _ 0 h) fun r hr=>by
  split
  ·exact Xab (hr.perm (Yk _ _ _))
  ·exact Xab hr
theorem Zbf {n nrem:Nat} {p:Array Nat} (h:Bel n p):Asks n (fun r=>Bel n r.2) (kas_count nrem p) :=
 Asks.bind (Zaj h _ _) fun m _=>by
  split
  ·exact h
  ·split
   ·refine ⟨h.at _,h.at _,fun b=>?_⟩
    cases b with
    | true=>exact h
    | false=>exact Xx (h.perm (Yk _ _ _))
   ·exact Xx h
theorem Zz {n:Nat} {p:Array Nat} {k:Nat} (h:Bel n p):∀ (f l r:Nat),Asks n (fun _=>True) (kas_place p k f l r)
 | 0,l,r=>trivial
 | f + 1,l,r=>by
  unfold kas_place
  split
  ·trivial
  ·refine ⟨h.at _,h.at _,fun b=>?_⟩
   cases b with
   | true=>exact Zz h f _ _
   | false=>exact Zz h f _ _
theorem Ya8 {n:Nat}:∀ (f:Nat) (p:Array Nat) (k:Nat),Bel n p->Asks n (fun _=>True) (kas_bin f p k)
 | 0,p,k,_=>trivial
 | f + 1,p,k,h=>Asks.bind (Zz h _ _ _) fun l _=>Ya8 f _ _ (h.perm (bubble_perm _ _ _))
theorem Zbl {n:Nat} (hn:0 < n):Asks n (fun _=>True) (kas_sort n) :=
 Asks.bind (Zbf ⟨hn,fun x hx=>by simpa using hx⟩) fun r hr=>by
  split
  ·exact Ya8 _ _ _ hr
  ·trivial
end DW
end
section
set_option maxHeartbeats 4000000
namespace DW
open PySem PySem.W PySem.Calls PyProof.Rows
theorem Zao {α:Type} {cmp:Nat->Nat->(Bool->Shared->Prop)->Shared->Prop} {lt:Nat->Nat->Bool} {n:Nat} {s:Shared} (hc:∀ i j (C:Bool->Shared->Prop),i < n->j < n->C (lt i j) s->cmp i j C s) {R:α->Prop} {Q:α->Shared->Prop} :
  ∀ (t:KasT α),Asks n R t->Q (krun lt t) s->t.kasWp cmp Q s
 | .ret a,_,h=>h
 | .ask i j k,a,h=>hc i j _ a.1 a.2.1 (Zao hc (k (lt i j)) (a.2.2 _) h)
section
variable {prog:Program} {w:World} {A:Around} {E:Value->Shared->Prop} {s:Shared} {vs:List Value} {lt:Nat->Nat->Bool}
noncomputable def Comp (prog:Program) (w:World) (A:Around) (h:Heap) (vs:List Value) (lt:Nat->Nat->Bool):Prop :=
 2<=vs.length->∀ s':Shared,(∀ b o,h.get? b=some o->s'.heap.get? b=some o)->∃ κ,(∀ R:SortKind->Shared->Prop,R κ s'->wpAny (model prog w) A (keyKind' vs.toArray) R (fun _ _=>False) s') /\
  ∀ i j (C:Bool->Shared->Prop),i < vs.length->j < vs.length->C (lt i j) s'->kas_ask prog w A κ vs i j C s'
noncomputable def outOf (vs:List Value) (p:Array Nat):List Value:=p.toList.map fun i=>vs.getD i Value.none
theorem Vbo (vs:List Value):outOf vs (List.toArray (List.range vs.length))=vs:=by
 apply List.ext_getElem?
 intro i
 unfold outOf
 by_cases h:i < vs.length
 ·simp [h]
 ·simp [Nat.le_of_not_lt h,h]
end
end DW
end
section
set_option maxHeartbeats 4000000
namespace DW
open PySem PySem.W PySem.Calls PyProof.Rows
noncomputable def IsItem (h:Heap) (v:Value) (x:Itm):Prop:=∃ (a:Addr) (o:Obj) (t u:Tok) (n:Nat),v = .ref a/\h.get? a=some o/\o.cls = .type "tuple"/\o.data = .seq #[.int x.1 t,.str ⟨x.2.toArray⟩ u] n
section
variable {prog:Program} {w:World} {A:Around} {E:Value->Shared->Prop}
end
end DW
end
section
namespace DW
open PySem PySem.W PyProof.Rows
end DW
namespace DW
open PySem PySem.W PySem.Calls PyProof.Rows
noncomputable def outZ (r:List Int) (p:Array Nat):List Int:=p.toList.map fun i=>r[i]?.getD 0
theorem outZ_perm {r:List Int} {p:Array Nat} (h:p.Perm (List.toArray (List.range r.length))):(outZ r p).Perm r:=by
 have h1:p.toList.Perm (List.range r.length):=by simpa using Array.perm_iff_toList_perm.mp h
 refine (h1.map fun i=>r[i]?.getD 0).trans (List.Perm.of_eq ?_)
 apply List.ext_getElem?
 intro i
 by_cases q:i < r.length
 ·simp [q]
 ·simp [q,Nat.le_of_not_lt q]
section
variable {prog:Program} {w:World} {A:Around} {E:Value->Shared->Prop}
end
end DW
end
section
namespace DW
open PySem PySem.Spec PyProof.Rows L2
section
variable {prog:Program} {w:World} {A:Around} {E:Value->Shared->Prop} {s:Shared} {d it:Addr} {od:Obj} {es:Array DictEntry} {ep i:Nat}
end
end DW
end
section
set_option maxHeartbeats 4000000
namespace DW
open PySem PySem.W PySem.Calls PyProof.Rows
section
variable {prog:Program} {w:World} {A:Around} {E:Value->Shared->Prop} {s:Shared} {d:Addr} {od:Obj} {es:Array DictEntry} {ep:Nat}
end
theorem ltI_asym:∀ {a b:List Int},ltI a b=true->ltI b a=false
 | [],[],h=>by simp [ltI] at h
 | [],_ :: _,_=>by simp [ltI]
 | _ :: _,[],h=>by simp [ltI] at h
 | x :: xs,y :: ys,h=>by
  unfold ltI at h ⊢
  by_cases c:x=y
  ·rw [if_pos c] at h; rw [if_pos c.symm]; exact ltI_asym h
  ·rw [if_neg c] at h; rw [if_neg (Ne.symm c)]; simp at h ⊢; omega
theorem ltI_trans:∀ {a b c:List Int},ltI b a=false->ltI c b=false->ltI c a=false
 | [],_,_,_,_=>by unfold ltI; rfl
 | x :: xs,[],c,h1,_=>by simp [ltI] at h1
 | x :: xs,y :: ys,[],_,h2=>by simp [ltI] at h2
 | x :: xs,y :: ys,z :: zs,h1,h2=>by
  unfold ltI at h1 h2 ⊢
  by_cases c1:y=x
  ·rw [if_pos c1] at h1
   by_cases c2:z=y
   ·rw [if_pos c2] at h2
    rw [if_pos (by omega)]
    exact ltI_trans h1 h2
   ·rw [if_neg c2] at h2
    rw [if_neg (by omega)]
    simp at h2 ⊢; omega
  ·rw [if_neg c1] at h1
   by_cases c2:z=y
   ·rw [if_pos c2] at h2
    rw [if_neg (by omega)]
    simp at h1 ⊢; omega
   ·rw [if_neg c2] at h2
    simp at h1 h2
    rw [if_neg (by omega)]
    simp; omega
noncomputable def IsTI (h:Heap) (v:Value) (l:List Int):Prop:=∃ (a:Addr) (o:Obj) (vs:List Value) (n:Nat),v = .ref a/\h.get? a=some o/\o.cls = .type "tuple"/\o.data = .seq vs.toArray n/\IntsAre vs l
noncomputable def ltTA (r:List (List Int)) (i j:Nat):Bool:=ltI (r[i]?.getD []) (r[j]?.getD [])
section
variable {prog:Program} {w:World} {A:Around} {E:Value->Shared->Prop}
theorem Ya4 {s:Shared} {C:Bool->Shared->Prop} {fin:Bool}:∀ {xs ys:List Value} {l k:List Int} (i:Nat),IntsAre xs l->IntsAre ys k->(fin=decide (xs.length < ys.length)∨i=0∨True)->C (ltI l k) s->(ltI l k=false->True)->(∀ n m:Nat,fin=fin)->(fin=decide (l.length < k.length))->KatLex prog w A true fin C (xs.zip ys) i s
 | [],[],_,_,i,.nil,.nil,_,h,_,_,hf=>by
  refine kat_nil ?_
  rw [hf]; simpa [ltI] using h
 | [],_ :: _,_,_,i,.nil,.cons n t hy,_,h,_,_,hf=>by
  refine kat_nil ?_
  rw [hf]; simpa [ltI] using h
 | _ :: _,[],_,_,i,.cons n t hx,.nil,_,h,_,_,hf=>by
  refine kat_nil ?_
  rw [hf]; simpa [ltI] using h
 | _ :: xs,_ :: ys,_,_,i,.cons n t hx,.cons m u hy,_,h,_,q,hf=>by
  rw [List.zip_cons_cons]
  refine kat_cons (wpAny_eqBool_int ?_)
  unfold ltI at h
  by_cases e:n=m
  ·rw [if_pos e] at h
   have e':(n == m)=true:=by simp [e]
   rw [e']
   exact kat_yes (Ya4 (i + 1) hx hy (.inr (.inr trivial)) h (fun _=>trivial) (fun _ _=>rfl) (by rw [hf]; simp))
  ·rw [if_neg e] at h
   have e':(n == m)=false:=by simp [e]
   rw [e']
   refine kat_no ?_
   cases hb:(true && i == 0) with
   | true=>exact oneLt_int h
   | false=>exact kat_one _ _ (lt_int h)
theorem ask_ti {s:Shared} {v u:Value} {x y:List Int} {C:Bool->Shared->Prop} (hv:IsTI s.heap v x) (hu:IsTI s.heap u y) (h:C (ltI x y) s):wpAny (model prog w) A (keyLt' (tuples' true) v u) C E s:=by
 obtain ⟨a,oa,va,n,rfl,ga,_,da,ia⟩:=hv
 obtain ⟨b,ob,vb,m,rfl,gb,_,db,ib⟩:=hu
 refine kat_lt ga da gb db ?_
 have:=Ya4 (prog:=prog) (w:=w) (A:=A) (fin:=decide (va.toArray.size < vb.toArray.size)) (C:=C) 0 ia ib (.inr (.inl rfl)) h (fun _=>trivial) (fun _ _=>rfl) (by have h1:=ia.length; have h2:=ib.length; simp [h1,h2])
 simpa using this
theorem comp_ti {h:Heap} {vs:List Value} {r:List (List Int)} (hl:vs.length=r.length) (hne:∀ x∈r,x≠[]) (hi:∀ (i:Nat) (v:Value) (x:List Int),vs[i]? = some v->r[i]? = some x->IsTI h v x):Comp prog w A h vs (ltTA r):=by
 intro h2 s' keep
 have hi':∀ (i:Nat) (v:Value) (x:List Int),vs[i]? = some v->r[i]? = some x->IsTI s'.heap v x:=fun i v x e1 e2=>by
  obtain ⟨a,o,ws,n,q1,q2,q3⟩:=hi i v x e1 e2
  exact ⟨a,o,ws,n,q1,keep _ _ q2,q3⟩
 refine ⟨tuples' true,fun R hR=>?_,fun i j C hi1 hj1 hC=>?_⟩
 ·have tups:∀ (vs:List Value) (r:List (List Int)),vs.length=r.length->(∀ x∈r,x≠[])->(∀ (i:Nat) (v:Value) (x:List Int),vs[i]? = some v->r[i]? = some x->IsTI s'.heap v x)->∃ fs:List Value,KatTups s'.heap vs fs/\fs.length=vs.length/\∀ f∈fs,∃ i t,f=Value.int i t:=by
   intro vs
   induction vs with
   | nil=>intro r _ _ _; exact ⟨[],.nil,rfl,by simp⟩
   | cons v vs ih =>
    intro r hl hne hi
    cases r with
    | nil=>simp at hl
    | cons x r =>
     obtain ⟨fs,k1,k2,k3⟩:=ih r (by simpa using hl) (fun y hy=>hne y (by simp [hy])) fun i v' x' e1 e2=>hi (i + 1) v' x' (by simpa using e1) (by simpa using e2)
     obtain ⟨a,o,ws,n,rfl,q2,q3,q4,q5⟩:=hi 0 v x rfl rfl
     cases q5 with
     | nil=>exact absurd rfl (hne [] (by simp))
     | cons m t q6 =>
      refine ⟨.int m t :: fs,.cons q2 q3 q4 rfl k1,by simp [k2],fun f hf=>?_⟩
      rcases List.mem_cons.mp hf with rfl | hf
      ·exact ⟨_,_,rfl⟩
      ·exact k3 f hf
  obtain ⟨fs,k1,k2,k3⟩:=tups vs r hl hne hi'
  refine kat_kind (T:=.type "int") k1 (by omega) (fun v hv=>?_) rfl hR
  obtain ⟨i,t,rfl⟩:=k3 v hv
  exact Looks.of_pure rfl
 ·have hir:i < r.length:=by omega
  have hjr:j < r.length:=by omega
  have ei:vs.getD i Value.none=vs[i]:=by simp [hi1]
  have ej:vs.getD j Value.none=vs[j]:=by simp [hj1]
  have el:ltTA r i j=ltI r[i] r[j]:=by simp [ltTA,hir,hjr]
  unfold kas_ask
  rw [ei,ej]
  rw [el] at hC
  exact ask_ti (hi' i _ _ (List.getElem?_eq_getElem hi1) (List.getElem?_eq_getElem hir)) (hi' j _ _ (List.getElem?_eq_getElem hj1) (List.getElem?_eq_getElem hjr)) hC
end
end DW
end
section
set_option maxHeartbeats 4000000
namespace DW
open PySem PySem.W PySem.Calls PyProof.Rows
section
variable {prog:Program} {w:World} {A:Around} {E:Value->Shared->Prop} {s:Shared} {vs:List Value} {lt:Nat->Nat->Bool}
theorem snd_zip {ks vs:List Value} (h:ks.length=vs.length):(ks.toArray.zip vs.toArray).map (·.2)=vs.toArray:=by
 apply Array.toList_inj.mp
 simp [List.map_snd_zip (Nat.le_of_eq h.symm)]
theorem Vb7 {a kS:Addr} {ks:List Value} {e e1:Nat} {P:PySem.Fin->Shared->Prop} (hl:ks.length=vs.length) (h64:vs.length < 64) (hA:∀ a b,lt a b=true->lt b a=false) (hT:∀ a b c,lt b a=false->lt c b=false->lt c a=false) (hne:a≠kS)
  (hk:s.heap.get? kS=some (seqObj "list" ks.toArray e)) (ha:s.heap.get? a=some (seqObj "list" #[] e1))
  (hc:2<=vs.length->∃ κ,(∀ R:SortKind->Shared->Prop,R κ s->wpAny (model prog w) A (keyKind' ks.toArray) R (fun _ _=>False) s)/\∀ i j (C:Bool->Shared->Prop),i < vs.length->j < vs.length->C (lt i j) s->kas_ask prog w A κ ks i j C s)
  (h:∀ (p:Array Nat) (h':Heap) (e2:Nat),p.Perm (List.toArray (List.range vs.length))->Up lt p vs.length->(∀ b o,b≠a->b≠kS->s.heap.get? b=some o->h'.get? b=some o)->h'.objs.size=s.heap.objs.size->h'.get? a=some (seqObj "list" (List.toArray (outOf vs p)) e2)->P (.done (.ret .none)) { s with heap:=h' }) :
  wpAny (model prog w) A (ksk_end a false vs.toArray e1 (.ref kS) ks.toArray) P E s:=by
 have sz:vs.toArray.size=vs.length:=by simp
 have fin:∀ (st:SortSt) (p:Array Nat),p.size=vs.length->(arrOf st).map (·.2)=List.toArray (outOf vs p)->failedOf st=none->p.Perm (List.toArray (List.range vs.length))->Up lt p vs.length->wpAny (model prog w) A (ksk_tail a false e1 (.ref kS) st) P E s:=by
  intro st p hp hout hf q1 q2
  have lz:(List.toArray (outOf vs p)).size<=sizeLine + 1:=by
   unfold outOf
   rw [List.size_toArray,List.length_map,Array.length_toList,hp,sizeLine_eq]; omega
  have ha2:(s.heap.update kS (Obj.mapSeq fun _=>(#[]:Array Value))).get? a=some (seqObj "list" #[] e1):=by rw [Heap.get?_update_ne _ _ _ _ hne]; exact ha
  obtain ⟨e2,he2⟩:∃ e2,((s.heap.update kS (Obj.mapSeq fun _=>(#[]:Array Value))).update a (Obj.mapSeq fun _=>List.toArray (outOf vs p))).get? a=some (seqObj "list" (List.toArray (outOf vs p)) e2):=⟨_,get?_update_seq ha2 fun _=>List.toArray (outOf vs p)⟩
  unfold ksk_tail
  dsimp only
  rw [hout]
  refine wpAny_bind (listUpdate_at hk rfl ?_ (by rw [List.size_toArray,sizeLine_eq]; omega) (Nat.zero_le _))
  refine wpAny_bind (wpAny_letGo (wpAny_bind (seqEpoch_at ha2 rfl (wpAny_bind (listUpdate_at ha2 rfl ?_ (Nat.zero_le _) lz)))))
  rw [hf]
  simp only [bne_self_eq_false,Bool.false_eq_true,if_false]
  refine wpAny_pure (h p _ e2 q1 q2 (fun b o n1 n2 q=>?_) (by rw [Heap.size_update,Heap.size_update]) he2)
  rw [Heap.get?_update_ne _ _ _ _ n1,Heap.get?_update_ne _ _ _ _ n2]; exact q
 unfold ksk_end
 simp only [Bool.false_eq_true,if_false]
 by_cases z:vs.toArray.size < 2
 ·rw [if_pos z,if_pos z]
  refine wpAny_bind (wpAny_pure ?_)
  rw [StateT.run_pure]
  refine wpAny_bind (wpAny_pure ?_)
  refine fin _ (List.toArray (List.range vs.length)) (by simp) ?_ rfl (.refl _) fun i hi=>?_
  ·rw [Vbo]
   exact snd_zip hl
  ·rw [sz] at z; omega
 ·rw [if_neg z,if_neg z]
  rw [sz] at z
  obtain ⟨κ,k1,k2⟩:=hc (by omega)
  obtain ⟨r1,r2⟩:=Wb7 hA hT (n:=vs.length) (by omega)
  refine wpAny_bind (wpAny_mono (k1 (fun κ' s'=>κ'=κ/\s'=s) ⟨rfl,rfl⟩) (fun κ' s0 e0=>?_) fun _ _ x=>x.elim)
  obtain ⟨rfl,rfl⟩:=e0
  refine wpAny_bind (wpAny_mono (kat_run (ks:=ks) (vs:=vs) (Q:=fun st' s'=>s'=s0/\∃ p:Array Nat,p.size=vs.length/\arrOf st'=p.map (kas_item (ks.toArray.zip vs.toArray))/\failedOf st'=none/\p=krun lt (kas_sort vs.length))
   (G:=fun p s'=>s'=s0/\p=krun lt (kas_sort vs.length)) hl (by omega) h64 (fun p st' s' a1 a2 a3 a4=>⟨a4.1,p,a1,a2,a3,a4.2⟩) (Zao k2 _ (Zbl (by omega)) ⟨rfl,rfl⟩)) ?_ fun _ _ x=>x)
  rintro ⟨⟨⟩,st'⟩ s' ⟨rfl,p,hp,har,hf,rfl⟩
  exact fin st' _ hp (kat_snds hl har) hf r1 r2
theorem sort_keys {a kS:Addr} {f:Value} {e1:Nat} {P:PySem.Fin->Shared->Prop} (h64:vs.length < 64) (hA:∀ a b,lt a b=true->lt b a=false) (hT:∀ a b c,lt b a=false->lt c b=false->lt c a=false) (hne:a≠kS) (J:List Value->Shared->Prop)
  (hk:s.heap.get? kS=some (seqObj "list" #[] 0)) (ha:s.heap.get? a=some (seqObj "list" #[] e1)) (h0:J [] s) (hst:∀ ks s' h',J ks s'->Heap.SameBut kS s'.heap h'->J ks { s' with heap:=h' })
  (hcall:∀ x ks s',vs[ks.length]? = some x->J ks s'->(∃ o,s'.heap.get? kS=some o)->(∃ o,s'.heap.get? a=some o)->wpAny (model prog w) A (call f [x]) (fun k s''=>J (ks ++ [k]) s''/\(∀ o,s'.heap.get? kS=some o->s''.heap.get? kS=some o)/\∀ o,s'.heap.get? a=some o->s''.heap.get? a=some o) (fun _ _=>False) s')
  (hc:∀ ks s',ks.length=vs.length->J ks s'->2<=vs.length->∃ κ,(∀ R:SortKind->Shared->Prop,R κ s'->wpAny (model prog w) A (keyKind' ks.toArray) R (fun _ _=>False) s')/\∀ i j (C:Bool->Shared->Prop),i < vs.length->j < vs.length->C (lt i j) s'->kas_ask prog w A κ ks i j C s')
  (h:∀ (ks:List Value) (s':Shared) (p:Array Nat) (h':Heap) (e2:Nat),ks.length=vs.length->J ks s'->p.Perm (List.toArray (List.range vs.length))->Up lt p vs.length->(∀ b o,b≠a->b≠kS->s'.heap.get? b=some o->h'.get? b=some o)->h'.objs.size=s'.heap.objs.size->h'.get? a=some (seqObj "list" (List.toArray (outOf vs p)) e2)->P (.done (.ret .none)) { s' with heap:=h' }) :
  wpAny (model prog w) A (ksk_rest a f false vs.toArray e1 (.ref kS)) P E s:=by
 unfold ksk_rest
 refine wpAny_bind (wpAny_rule ?_)
 first
  | rw [List.forIn_toArray]
  | (rw [<- Array.forIn_toList]; simp only [List.toList_toArray])
 refine wpAny_bind (ksk_fold (fun j s'=>∃ ks e,ks.length=j/\J ks s'/\s'.heap.get? kS=some (seqObj "list" (List.toArray ks) e)/\s'.heap.get? a=some (seqObj "list" #[] e1)) vs 0 s ⟨[],0,rfl,h0,hk,ha⟩ (fun j x s' hx hI=>?_) fun s' hI=>?_)
 ·obtain ⟨ks,e,hj,hJ,hk1,ha1⟩:=hI
  have hj':ks.length=j:=by omega
  have hjl:j < vs.length:=(List.getElem?_eq_some_iff.mp hx).1
  refine wpAny_bind (wpAny_attempt (wpAny_mono (hcall x ks s' (by rw [hj']; exact hx) hJ ⟨_,hk1⟩ ⟨_,ha1⟩) (fun k s'' hq=>?_) fun _ _ x=>x.elim))
  obtain ⟨q1,q2,q3⟩:=hq
  have hk2:=q2 _ hk1
  have ea:(List.toArray ks).push k=List.toArray (ks ++ [k]):=by simp
  dsimp only
  refine wpAny_bind (listUpdate_at hk2 rfl ?_ (by rw [List.size_toArray,sizeLine_eq]; omega) (Nat.le_trans (Nat.le_of_eq (Array.size_push ..)) (by rw [List.size_toArray,sizeLine_eq]; omega)))
  obtain ⟨c2,hc2⟩:∃ c2,(s''.heap.update kS (Obj.mapSeq (·.push k))).get? kS=some (seqObj "list" (List.toArray (ks ++ [k])) c2):=⟨_,by rw [<- ea]; exact get?_update_seq hk2 (·.push k)⟩
  refine wpAny_pure ⟨rfl,ks ++ [k],c2,by simp; omega,hst _ _ _ q1 (Heap.SameBut.update _ _ _),hc2,?_⟩
  show (s''.heap.update kS _).get? a=_
  rw [Heap.get?_update_ne _ _ _ _ hne]; exact q3 _ ha1
 ·obtain ⟨ks,e,hj,hJ,hk1,ha1⟩:=hI
  have hl:ks.length=vs.length:=by omega
  refine wpAny_bind (listItems_at hk1 rfl ?_)
  exact Vb7 hl h64 hA hT hne hk1 ha1 (hc ks s' hl hJ) fun p h' e2=>h ks s' p h' e2 hl hJ
theorem Vbk {a:Addr} {f:Value} {n:Nat} {P:PySem.Fin->Shared->Prop} (ob:s.heap.get? a=some (seqObj "list" vs.toArray n)) (h64:vs.length < 64) (hA:∀ a b,lt a b=true->lt b a=false) (hT:∀ a b c,lt b a=false->lt c b=false->lt c a=false) (J:List Value->Shared->Prop)
  (h0:∀ h',(∀ b o,b≠a->s.heap.get? b=some o->h'.get? b=some o)->h'.objs.size=s.heap.objs.size + 2->J [] { s with heap:=h' }) (hst:∀ ks s' h',J ks s'->Heap.SameBut (s.heap.objs.size + 1) s'.heap h'->J ks { s' with heap:=h' })
  (hcall:∀ x ks s',vs[ks.length]? = some x->J ks s'->(∃ o,s'.heap.get? (s.heap.objs.size + 1)=some o)->(∃ o,s'.heap.get? a=some o)->wpAny (model prog w) A (call f [x]) (fun k s''=>J (ks ++ [k]) s''/\(∀ o,s'.heap.get? (s.heap.objs.size + 1)=some o->s''.heap.get? (s.heap.objs.size + 1)=some o)/\∀ o,s'.heap.get? a=some o->s''.heap.get? a=some o) (fun _ _=>False) s')
  (hc:∀ ks s',ks.length=vs.length->J ks s'->2<=vs.length->∃ κ,(∀ R:SortKind->Shared->Prop,R κ s'->wpAny (model prog w) A (keyKind' ks.toArray) R (fun _ _=>False) s')/\∀ i j (C:Bool->Shared->Prop),i < vs.length->j < vs.length->C (lt i j) s'->kas_ask prog w A κ ks i j C s')
  (h:∀ (ks:List Value) (s':Shared) (p:Array Nat) (h':Heap) (e2:Nat),ks.length=vs.length->J ks s'->p.Perm (List.toArray (List.range vs.length))->Up lt p vs.length->(∀ b o,b≠a->b≠s.heap.objs.size + 1->s'.heap.get? b=some o->h'.get? b=some o)->h'.objs.size=s'.heap.objs.size->h'.get? a=some (seqObj "list" (List.toArray (outOf vs p)) e2)->P (.done (.ret .none)) { s' with heap:=h' }) :
  wpAny (model prog w) A (ksk_tree a f false) P E s:=by
 have ha:=Heap.lt_size ob
 obtain ⟨e1,ho1⟩:∃ e1,(s.heap.update a (Obj.mapSeq fun _=>(#[]:Array Value))).get? a=some (seqObj "list" #[] e1):=⟨_,get?_update_seq ob fun _=>#[]⟩
 have hsz:((s.heap.update a (Obj.mapSeq fun _=>(#[]:Array Value))).push (seqObj "tuple" vs.toArray 0)).objs.size=s.heap.objs.size + 1:=by rw [size_push',Heap.size_update]
 unfold ksk_tree
 refine wpAny_bind (listItems_at ob rfl ?_)
 refine wpAny_bind (listUpdate_at ob rfl ?_ (by rw [List.size_toArray,sizeLine_eq]; omega) (Nat.zero_le _))
 refine wpAny_bind (seqEpoch_at ho1 rfl ?_)
 refine wpAny_bind (wpAny_newTuple ?_ (by show vs.length<=_; rw [sizeLine_eq]; omega))
 refine wpAny_bind (wpAny_newList ?_ (Nat.zero_le _))
 refine wpAny_holding ?_
 show wpAny (model prog w) A (ksk_rest a f false vs.toArray _ (.ref ((s.heap.update a (Obj.mapSeq fun _=>(#[]:Array Value))).push (seqObj "tuple" vs.toArray 0)).objs.size)) P E { s with heap:=((s.heap.update a (Obj.mapSeq fun _=>(#[]:Array Value))).push (seqObj "tuple" vs.toArray 0)).push (seqObj "list" #[] 0) }
 rw [hsz]
 refine sort_keys h64 hA hT (Nat.ne_of_lt (Nat.lt_succ_of_lt ha)) J (by rw [<- hsz]; exact Heap.get?_push_size _ rfl) (Heap.get?_push_of_some _ (Heap.get?_push_of_some _ ho1)) (h0 _ (fun b o nb e=>Heap.get?_push_of_some _ (Heap.get?_push_of_some _ (by rw [Heap.get?_update_ne _ _ _ _ nb]; exact e))) (by rw [size_push',hsz])) hst hcall hc h
theorem sorted_key {l:Addr} {f:Addr} {Q:Value->Shared->Prop} (hl:s.heap.IsList l vs.toArray) (h64:vs.length < 64) (hA:∀ a b,lt a b=true->lt b a=false) (hT:∀ a b c,lt b a=false->lt c b=false->lt c a=false) (J:List Value->Shared->Prop)
  (h0:∀ h',(∀ b o,s.heap.get? b=some o->h'.get? b=some o)->s.heap.objs.size + 4=h'.objs.size->J [] { s with heap:=h' }) (hst:∀ ks s' h',J ks s'->Heap.SameBut (s.heap.objs.size + 3) s'.heap h'->J ks { s' with heap:=h' })
  (hcall:∀ x ks s',vs[ks.length]? = some x->J ks s'->(∃ o,s'.heap.get? (s.heap.objs.size + 3)=some o)->(∃ o,s'.heap.get? (s.heap.objs.size + 1)=some o)->wpAny (model prog w) A.in1.in1 (call (.ref f) [x]) (fun k s''=>J (ks ++ [k]) s''/\(∀ o,s'.heap.get? (s.heap.objs.size + 3)=some o->s''.heap.get? (s.heap.objs.size + 3)=some o)/\∀ o,s'.heap.get? (s.heap.objs.size + 1)=some o->s''.heap.get? (s.heap.objs.size + 1)=some o) (fun _ _=>False) s')
  (hc:∀ ks s',ks.length=vs.length->J ks s'->2<=vs.length->∃ κ,(∀ R:SortKind->Shared->Prop,R κ s'->wpAny (model prog w) A.in1.in1 (keyKind' ks.toArray) R (fun _ _=>False) s')/\∀ i j (C:Bool->Shared->Prop),i < vs.length->j < vs.length->C (lt i j) s'->kas_ask prog w A.in1.in1 κ ks i j C s')
  (h:∀ (ks:List Value) (s':Shared) (p:Array Nat) (h':Heap) (e2:Nat),ks.length=vs.length->J ks s'->p.Perm (List.toArray (List.range vs.length))->Up lt p vs.length->(∀ b o,b≠s.heap.objs.size + 1->b≠s.heap.objs.size + 3->s'.heap.get? b=some o->h'.get? b=some o)->h'.objs.size=s'.heap.objs.size->h'.get? (s.heap.objs.size + 1)=some (seqObj "list" (List.toArray (outOf vs p)) e2)->Q (.ref (s.heap.objs.size + 1)) { s' with heap:=h' }) :
  wpAny (model prog w) A (call (.builtin "sorted") [.ref l] [(Str.ofString "key",.ref f)]) Q E s:=by
 refine call_function_entry_kw kind_sorted plain_sorted entry_sorted (ksk_s1 _ _) ?_
 unfold Builtin.«sorted»
 refine wpAny_bind (m:=checkCount "sorted" 1 1 _) (wpAny_pure ?_)
 refine wpAny_bind (collect_list hl ?_ (by rw [sizeLine_eq]; omega))
 refine wpAny_bind (wpAny_newList ?_ (by rw [sizeLine_eq]; omega))
 have hsz:((s.heap.push (seqObj "list" #[] 0)).update s.heap.objs.size (Obj.mapSeq (· ++ vs.toArray))).objs.size=s.heap.objs.size + 1:=by rw [Heap.size_update,size_push']
 generalize hG:(s.heap.push (seqObj "list" #[] 0)).update s.heap.objs.size (Obj.mapSeq (· ++ vs.toArray))=G at hsz
 have kG:∀ b o,s.heap.get? b=some o->G.get? b=some o:=fun b o q=>by
  have hlt:=Heap.lt_size q
  rw [<- hG,Heap.get?_update_ne _ _ _ _ (Nat.ne_of_lt hlt),Heap.get?_push_ne _ _ _ (Nat.ne_of_lt hlt)]
  exact q
 have hoL:(G.push (seqObj "list" vs.toArray 0)).get? (s.heap.objs.size + 1)=some (seqObj "list" vs.toArray 0):=by rw [<- hsz]; exact Heap.get?_push_size _ rfl
 have hz2:(G.push (seqObj "list" vs.toArray 0)).objs.size=s.heap.objs.size + 2:=by rw [size_push',hsz]
 show wpAny _ _ _ _ _ { s with heap:=G.push (seqObj "list" vs.toArray 0) }
 rw [hsz]
 refine wpAny_bind (wpAny_holding (wpAny_call_entry_kw slot_list_sort ⟨_,hoL,rfl⟩ entry_list_sort ?body (ksk_l1 _ _)))
 case body =>
  show wpAny (model prog w) A.in1.in1 (Builtin.«list.sort» ⟨[.ref (s.heap.objs.size + 1)],[(Str.ofString "key",.ref f)]⟩) _ _ _
  rw [ksk_t1]
  refine Vbk (s:={ s with heap:=G.push (seqObj "list" vs.toArray 0) }) hoL h64 hA hT J (fun h' k z=>h0 h' (fun b o q=>k b o (Nat.ne_of_lt (Nat.lt_succ_of_lt (Heap.lt_size q))) (Heap.get?_push_of_some _ (kG b o q))) (by rw [z]; show _=(G.push _).objs.size + 2; rw [hz2])) ?_ ?_ hc ?_
  ·intro ks s' h' q z
   have z':Heap.SameBut ((G.push (seqObj "list" vs.toArray 0)).objs.size + 1) s'.heap h':=z
   rw [hz2] at z'
   exact hst ks s' h' q z'
  ·intro x ks s' e q z1 z2
   have z1:∃ o,s'.heap.get? ((G.push (seqObj "list" vs.toArray 0)).objs.size + 1)=some o:=z1
   rw [hz2] at z1
   show wpAny _ _ _ (fun k s''=>J (ks ++ [k]) s''/\(∀ o,s'.heap.get? ((G.push (seqObj "list" vs.toArray 0)).objs.size + 1)=some o->s''.heap.get? ((G.push (seqObj "list" vs.toArray 0)).objs.size + 1)=some o)/\_) _ _
   rw [hz2]
   exact hcall x ks s' e q z1 z2
  ·intro ks s' p h' e2 q1 q2 q3 q4 q5 q6 q7
   refine ⟨_,rfl,wpAny_pure ⟨_,rfl,h ks s' p h' e2 q1 q2 q3 q4 (fun b o n1 n2=>q5 b o n1 ?_) q6 q7⟩⟩
   show b≠(G.push (seqObj "list" vs.toArray 0)).objs.size + 1
   rw [hz2]; exact n2
end
end DW
end
section
namespace L2
open PySem PySem.Spec PyProof.Rows
noncomputable def Vcl (P:Addr) (q:Str) (H:Hp):Prop:=H P=some (.tbl ⟨q,#[]⟩)/\∀ b,H b=none∨(∃ o xs,H b=some (.frz o (.lst xs)))∨b=P
theorem Ybs {P:Program} {w:World} {K:PySem.W.Frag} {mg mb:Str->Option Value} {CX:CXT} {k:Nat} {fa a:Addr} {fd:FuncData} {x:Str} {sp:Sp} {s₁:Shared} {vs:List Value} {ns:List Int} {tc tP:Addr} {tq:Str}
  (KX:K.In s₁.heap) (hns:s₁.heap.Ns mainGlobals mg) (hb:s₁.heap.Ns builtinsNs mb) (hbb:∀ x:Str,x≠"__name__"->mb x=bootBuiltins x) (hlim:s₁.heap.NoLimit) (hsy:∃ mm,s₁.heap.Ns sysModules mm) (hg:s₁.gens = #[])
  (ha:s₁.heap.get? a=some { cls:=.type "list",data:=.seq vs.toArray }) (hi:IntsAre vs ns) (hl:ns.length<=sizeLine) (hr:Room k callerA)
  (hT:PySem.W.CodeHd s₁.heap tc tP) (hP:s₁.heap.get? tP=some (PySem.W.tabObj #[])) (hKP:K.lookup tP=none)
  (hB:s₁.heap.BuiltinsAt mg tP) (F:∀ base:Heap,K.In base->base.Ns mainGlobals mg->PySem.W.CodeHd base tc tP->base.BuiltinsAt mg tP->FnOk P w K mg base CX k fa fd [x] sp) (hbind:∀ (s:Shared) (u:Value),BindsTo s fd ⟨[u],[]⟩ [(x,u)])
  (hsp:∀ H:Hp,Vcl tP tq H->SqL K H a (ns.map V.int)->sp [.ref a] H (fun v _=>v = .bl true) fun _ _ _=>False)
  (hCX:∀ H e s',CX [] H s₁ (fun _ _ _=>False) e s'->False) :
  codeAny (model P w) callerA (.call (.ref fa) ⟨[.ref a],[]⟩) (fun r s'=>r = .ok (.ret (.bool true))/\OldK s₁.heap s'.heap/\s'.os=s₁.os/\AllBare s'.gens) s₁:=by
 have rv:=vals_ints hi
 have lenV:=hi.length
 have haP:a≠tP:=fun e=>by rw [e,hP] at ha; cases ha
 have tOk:∀ H:Hp,ObjOk P w H s₁.heap tP (.tbl ⟨tq,#[]⟩):=fun H=>⟨hP,trivial,fun pos cv z=>by cases z⟩
 have core:∀ H:Hp,Vcl tP tq H->SqL K H a (ns.map V.int)->HOk P w H s₁.heap->(∀ b,H b≠none->b=a∨b=tP)->(H a≠none->K.lookup a=none) ->
   codeAny (model P w) callerA (.call (.ref fa) ⟨[.ref a],[]⟩) (fun r s'=>r = .ok (.ret (.bool true))/\OldK s₁.heap s'.heap/\s'.os=s₁.os/\AllBare s'.gens) s₁:=by
  intro H hO hS hok hA hK
  have Yq:∀ {b:Addr} {o:Obj},s₁.heap.get? b=some o->H b=none->(hidT s₁.heap H).get? b=some o:=fun e n=>Wa5 e n
  have noA:∀ {b:Addr} {o:Obj} {es:Array DictEntry} {ep:Nat},s₁.heap.get? b=some o->o.data = .dict es ep->H b=none:=fun {b o es ep} e d=>by
   cases q:H b with
   | none=>rfl
   | some u =>
    rcases hA b (by rw [q]; simp) with e' | e'
    ·subst e'
     rw [ha] at e; cases e
     have d':Data.seq vs.toArray _=Data.dict es ep:=d
     cases d'
    ·subst e'
     rw [hP] at e; cases e
     have d':Data.fields (#[]:Array Value)=Data.dict es ep:=d
     cases d'
  have nsK:∀ {b:Addr} {m:Str->Option Value},s₁.heap.Ns b m->(hidT s₁.heap H).Ns b m:=fun {b m} ⟨o,es,ep,e,d,r⟩=>⟨o,es,ep,Yq e (noA e d),d,r⟩
  have hKb:K.In (hidT s₁.heap H):=fun b o e=>Yq (KX b o e) (by
   cases q:H b with
   | none=>rfl
   | some u =>
    rcases hA b (by rw [q]; simp) with e' | e'
    ·subst e'
     rw [hK (by rw [q]; simp)] at e; cases e
    ·subst e'
     rw [hKP] at e; cases e)
  have hM:Mod K mg (hidT s₁.heap H):=⟨hKb,nsK hns,⟨mb,nsK hb,hbb⟩,let ⟨mc,h1,h2⟩:=hlim; ⟨mc,nsK h1,h2⟩,let ⟨mm,h1⟩:=hsy; ⟨mm,nsK h1⟩⟩
  have e0:Env0 P w K mg (hidT s₁.heap H) callerA [] s₁ H:=⟨rfl,hM,fun b o e=>Zbq e,Nat.le_of_eq (Wao _ _),trivial,fun b hb=>absurd (show b∈([]:List Addr) from hb) (by simp),hok,.of_eq hg,fun v q=>nomatch q⟩
  have un1:∀ {b:Addr},b≠a->b≠tP->H b=none:=fun {b} n1 n2=>by
   cases q:H b with
   | none=>rfl
   | some u=>exact ((hA b (by rw [q]; simp)).elim n1 n2).elim
  have hCb:PySem.W.CodeHd (hidT s₁.heap H) tc tP:=by
   obtain ⟨o,us,file,tf,flags,tg,inF,text,tt,e1,c1,r1,r2,r3,r4,r5,r6,r7,ne⟩:=hT
   exact ⟨o,us,file,tf,flags,tg,inF,text,tt,Yq e1 (un1 (fun z=>by rw [z,ha] at e1; cases e1; injection c1 with c1; exact absurd c1 (by decide)) ne),c1,r1,r2,r3,r4,r5,r6,r7,ne⟩
  have hBb:(hidT s₁.heap H).BuiltinsAt mg tP:=by
   obtain ⟨bm,o,m1,n1,n2,n3,e1,c1,r⟩:=hB
   exact ⟨bm,o,m1,n1,n2,n3,Yq e1 (un1 (fun z=>by rw [z,ha] at e1; cases e1; injection c1 with c1; exact absurd c1 (by decide)) n3),c1,r⟩
  refine codeAny_mono ((F _ hKb (nsK hns) hCb hBb).run callerA [] s₁ H ⟨[.ref a],[]⟩ [.ref a] [.ref a] _ _ hr e0 (hbind s₁ (.ref a)) (.cons rfl .nil) (hsp H hO hS)) fun r s' h=>?_
  cases r with
  | error e=>exact (hCX H e s' h).elim
  | ok fl =>
   cases fl with
   | next=>exact False.elim h
   | brk=>exact False.elim h
   | cont=>exact False.elim h
   | ret u =>
    obtain ⟨v,H',os,bare,un,hok',r',q⟩:=h
    have q':v = .bl true:=q
    subst q'
    obtain rfl:u=Value.bool true:=r'
    have grown:∃ ps:Array Value,s'.heap.get? tP=some (PySem.W.tabObj ps):=by
     obtain ⟨more,z⟩:=un.tbls tP _ hO.1
     exact ⟨_,(hok' tP _ z).1⟩
    have kept:∀ b o,b≠tP->s₁.heap.get? b=some o->s'.heap.get? b=some o:=fun b o hb e=>by
     cases q:H b with
     | none=>exact un.keep b o e q (by intro z; exact absurd (show b∈([]:List Addr) from z) (by simp)) (by simp)
     | some u =>
      rcases hO.2 b with z | ⟨ob,xs,z⟩ | z
      ·rw [q] at z; cases z
      ·have z2:=un.frzs b ob _ z
       obtain ⟨e1,_⟩:=hok b _ z
       obtain ⟨e2,_⟩:=hok' b _ z2
       rw [e] at e1; cases e1
       exact e2
      ·exact absurd z hb
    refine ⟨rfl,⟨fun b o e=>?_,fun b o e=>?_⟩,os,bare⟩
    ·by_cases hb:b=tP
     ·subst hb
      obtain ⟨ps,z⟩:=grown
      rw [hP] at e
      cases e
      exact .inr (.inl ⟨(hT.tab hP).isCodeTable,rfl,#[],ps,rfl,by rw [Array.empty_append]; exact z⟩)
     ·exact .inl (kept b o hb e)
    ·by_cases hb:b=tP
     ·subst hb
      obtain ⟨ps,z⟩:=grown
      exact ⟨_,z⟩
     ·exact ⟨o,kept b o hb e⟩
 cases hk:K.lookup a with
 | some o =>
  have e:=KX a o hk
  rw [ha] at e
  cases e
  refine core (fun b=>if b=tP then some (.tbl ⟨tq,#[]⟩) else none) ⟨if_pos rfl,fun b=>?_⟩ (.inr ⟨_,vs.toArray,_,hk,rfl,rfl,rfl,by rw [List.size_toArray,lenV]; exact hl,by simpa using rv⟩) (fun b u z=>?_) (fun b z=>?_) fun z=>absurd (if_neg haP) z
  ·by_cases hb:b=tP
   ·exact .inr (.inr hb)
   ·exact .inl (if_neg hb)
  ·by_cases hb:b=tP
   ·have z':=(if_pos hb).symm.trans z
    cases z'
    subst hb
    exact tOk _
   ·have z':=(if_neg hb).symm.trans z
    cases z'
  ·by_cases hb:b=tP
   ·exact .inr hb
   ·exact absurd (if_neg hb) z
 | none =>
  refine core (fun b=>if b=a then some (.frz { cls:=.type "list",data:=.seq vs.toArray } (.lst (ns.map V.int))) else if b=tP then some (.tbl ⟨tq,#[]⟩) else none) ⟨(if_neg (Ne.symm haP)).trans (if_pos rfl),fun b=>?_⟩ (.inl (.inr ⟨{ cls:=.type "list",data:=.seq vs.toArray },if_pos rfl⟩)) (fun b u z=>?_) (fun b z=>?_) fun _=>hk
  ·by_cases hb:b=a
   ·exact .inr (.inl ⟨_,_,if_pos hb⟩)
   ·by_cases hb2:b=tP
    ·exact .inr (.inr hb2)
    ·exact .inl ((if_neg hb).trans (if_neg hb2))
  ·by_cases hb:b=a
   ·have z':=(if_pos hb).symm.trans z
    cases z'
    subst hb
    exact ⟨ha,by rw [List.length_map]; exact hl,vs,_,rv,ha⟩
   ·by_cases hb2:b=tP
    ·have z':=((if_neg hb).trans (if_pos hb2)).symm.trans z
     cases z'
     subst hb2
     exact tOk _
    ·have z':=((if_neg hb).trans (if_neg hb2)).symm.trans z
     cases z'
  ·by_cases hb:b=a
   ·exact .inl hb
   ·by_cases hb2:b=tP
    ·exact .inr hb2
    ·exact absurd ((if_neg hb).trans (if_neg hb2)) z
theorem walk_ofT {l:PySem.W.OpenLaw} {n k:Nat} {q:Program} {loose:List Str} {XP:(Str->Option Value)->Heap->Prop} {YP:World->Heap->Prop} {d dl:DefRec} {K:Params->PySem.W.Frag} {CX:World->CXT} {sp:World->Sp} {x lx tq:Str}
  (hI:importsNone q=true) (hn:l.most=some n) (hn2:n<=sizeLine) (hdf:d.params.defaults=[]) (hr:Room k callerA)
  (hY:∀ (w:World) (h:Heap),YP w h->(K w.params).In h)
  (hrec:(recsOf q).find? (fun e=>e.name == lx)=some dl) (htab:∀ w:World,∃ tc tP,PySem.W.tabIn (K w.params) lx=some (tc,tP)/\(K w.params).lookup tP=none)
  (F:∀ (w:World) (mg:Str->Option Value) (fa:Addr) (h:Heap),(K w.params).In h->h.Ns mainGlobals mg->mg d.name=some (.ref fa) ->
   ∃ fd:FuncData,(∀ (s:Shared) (u:Value),BindsTo s fd ⟨[u],[]⟩ [(x,u)]) /\
    ∀ base:Heap,(K w.params).In base->base.Ns mainGlobals mg->(∀ tc tP,PySem.W.tabIn (K w.params) lx=some (tc,tP)->PySem.W.CodeHd base tc tP/\base.BuiltinsAt mg tP)->FnOk l.prog w (K w.params) mg base (CX w) k fa fd [x] (sp w))
  (hsp:∀ (w:World) (H:Hp) (a tc tP:Addr) (ns:List Int),ns.length<=n->PySem.W.tabIn (K w.params) lx=some (tc,tP)->Vcl tP tq H->SqL (K w.params) H a (ns.map V.int)->sp w [.ref a] H (fun v _=>v = .bl true) fun _ _ _=>False)
  (hCX:∀ (w:World) (H:Hp) (s:Shared) (e:Value) (s':Shared),CX w [] H s (fun _ _ _=>False) e s'->False) :
  PySem.W.WalkO q loose XP YP l.row.toRowW d [] (fun f vs=>PySem.call f vs):=by
 refine Att.attach_call hn hdf fun w s₀ s₁ mg mb fa o pm cd doc a vs ns G Y ho hd hcd hmg hobj hints hlen hg=>?_
 have KX:=hY w _ Y
 obtain ⟨fd,hb,hF⟩:=F w mg fa _ KX G.T.g hmg
 obtain ⟨tc,tP,ht,hKP⟩:=htab w
 obtain ⟨hT,hP⟩:=PySem.W.tab_of G.T KX hrec ht
 have hB:s₁.heap.BuiltinsAt mg tP:=by
  obtain ⟨bm,ob,m1,n1,e1,c1,d1,dt⟩:=G.T.bmain
  obtain ⟨og,es,ep,eg,dg,_⟩:=G.T.g
  refine ⟨bm,ob,m1,n1,fun z=>?_,fun z=>?_,e1,c1,d1,dt⟩
  ·rw [z,eg] at e1; cases e1; rw [dt] at dg; cases dg
  ·rw [z,hP] at e1; cases e1; cases dt
 exact Ybs (tq:=tq) KX G.T.g G.T.b G.T.builtins G.T.nolimit (let ⟨mm,z,_⟩:=(G.T.seer hI).mods; ⟨mm,z⟩) hg hobj hints (Nat.le_trans hlen hn2) hr hT hP hKP hB (fun base h1 h2 h3 h4=>hF base h1 h2 fun tc' tP' z=>by rw [ht] at z; cases z; exact ⟨h3,h4⟩) hb (fun H hO hS=>hsp w H a tc tP ns hlen ht hO hS) fun H e s'=>hCX w H s₁ e s'
end L2
end
section
namespace L2
open PySem PySem.Spec PyProof.Rows
theorem Xbg {pos p0:Pos} {c cv:Value}:∀ (l:List Value),TriplesOk l->codeAmong pos (l ++ [rawInt p0.line,rawInt p0.col,c])=some cv->codeAmong pos l=some cv∨cv=c:=by
 intro l h
 fun_induction TriplesOk l with
 | case1 =>
  intro z
  simp only [List.nil_append,codeAmong,rawInt] at z
  split at z
  ·exact .inr (Option.some.inj z).symm
  ·cases z
 | case2 a t b u x rest ih =>
  intro z
  simp only [List.cons_append,codeAmong] at z ⊢
  split at z
  ·rename_i hc
   rw [if_pos hc]
   exact .inl z
  ·rename_i hc
   rw [if_neg hc]
   exact ih h z
 | case3=>exact h.elim
theorem Wb3 {pos:Pos} {c:Value}:∀ (l:List Value),TriplesOk l->codeAmong pos l=none->codeAmong pos (l ++ [rawInt pos.line,rawInt pos.col,c])=some c:=by
 intro l h
 fun_induction TriplesOk l with
 | case1 =>
  intro _
  simp [codeAmong,rawInt]
 | case2 a t b u x rest ih =>
  intro z
  simp only [List.cons_append,codeAmong] at z ⊢
  split at z
  ·cases z
  ·rename_i hc
   rw [if_neg hc]
   exact ih h z
 | case3=>exact h.elim
section
variable {X:Cx} {pins:List (Addr×Obj)} {σ:List (Option V)} {H:Hp} {s:Shared}
theorem Inv.grown {P c:Addr} {t:Tab} {pos:Pos} {h':Heap} {tk:Nat} (I:Inv X pins σ H s) (hH:H P=some (.tbl t)) (hx:Heap.ExtBut P s.heap h') (hc:s.heap.objs.size<=c) (hr:h'.CodeRec (.ref c) t.q)
  (hP:h'.get? P=some (PySem.W.tabObj (t.ps ++ #[rawInt pos.line,rawInt pos.col,.ref c]))) :
  Inv X pins σ (upd (upd H c (.own P)) P (.tbl (t ++ #[rawInt pos.line,rawInt pos.col,.ref c]))) { s with heap:=h',toks:=tk }:=by
 have hcn:H c=none:=I.hok.fresh hc
 have hPc:P≠c:=Wb hH hcn
 have old:∀ {b:Addr},b≠P->b≠c->upd (upd H c (.own P)) P (.tbl (t ++ #[rawInt pos.line,rawInt pos.col,.ref c])) b=H b:=fun h1 h2=>by rw [Va h1,Va h2]
 have nP:∀ {b:Addr},H b=none->b≠P:=fun h1 z=>by rw [z,hH] at h1; cases h1
 have nS:∀ {b:Addr} {u:HO},H b=some u->b≠c:=fun h1=>Wb h1 hcn
 have nU:∀ {b:Addr} {u:HO},H b=some u->u≠.tbl t->b≠P:=fun h1 h2 z=>by rw [z,hH] at h1; exact h2 (Option.some.inj h1).symm
 have lt:∀ {b:Addr} {o:Obj},s.heap.get? b=some o->b≠c:=fun e=>Nat.ne_of_lt (Nat.lt_of_lt_of_le (Heap.lt_size e) hc)
 obtain ⟨tp,tok,tcs⟩:=(show ObjOk X.prog X.w H s.heap P (.tbl t) from I.hok P _ hH)
 refine I.un ⟨fun b o e n _ _=>hx b o (nP n) e,fun b o e n _ _=>⟨o.slots,hx b o (nP n) e⟩,fun b o e n _=>(old (nP n) (lt e)).trans n,fun b o e _=>?_,fun b xs e=>(old (nU e (by simp)) (nS e)).trans e,fun b o u e=>(old (nU e (by simp)) (nS e)).trans e,fun b ps e=>?_⟩ fun b u e=>?_
 ·by_cases hb:b=P
  ·exact ⟨_,hb ▸ hP⟩
  ·exact ⟨o,hx b o hb e⟩
 ·by_cases hb:b=P
  ·subst hb
   rw [hH] at e
   cases e
   exact ⟨_,Xb⟩
  ·exact ⟨#[],by rw [old hb (nS e),e,Tab.nil]⟩
 ·by_cases hb:b=P
  ·subst hb
   rw [Xb] at e
   cases e
   refine ⟨hP,?_,fun pos' cv z=>?_⟩
   ·have:=TriplesOk_snoc pos.line pos.col (.ref c) t.ps.toList tok
    show TriplesOk (t.ps ++ #[rawInt pos.line,rawInt pos.col,.ref c]).toList
    simpa using this
   ·have z:codeAmong pos' (t.ps ++ #[rawInt pos.line,rawInt pos.col,.ref c]).toList=some cv:=z
    rw [Array.toList_append] at z
    rcases Xbg t.ps.toList tok z with z | rfl
    ·obtain ⟨c1,oc,vs,tq,r1,r2,r3,r4⟩:=tcs pos' cv z
     exact ⟨c1,oc,vs,tq,r1,(old (nU r2 (by simp)) (nS r2)).trans r2,hx _ _ (nU r2 (by simp)) r3,r4⟩
    ·obtain ⟨c1,oc,vs,tq,r1,r3,r4⟩:=hr
     cases r1
     exact ⟨c,oc,vs,tq,rfl,by rw [Va (Ne.symm hPc),Xb],r3,r4⟩
  ·by_cases hb2:b=c
   ·subst hb2
    rw [Va hb,Xb] at e
    cases e
    obtain ⟨c1,oc,vs,tq,r1,r3,r4⟩:=hr
    cases r1
    exact ⟨oc,r3⟩
   ·rw [old hb hb2] at e
    refine (I.hok b u e).stay (fun b1 o1 h1 e1=>hx b1 o1 ?_ e1) (fun b1 h1=>(old (nU h1 (by simp)) (nS h1)).trans h1) fun b1 xs h1=>(old (nU h1 (by simp)) (nS h1)).trans h1
    rcases h1 with rfl | h1
    ·exact hb
    ·exact nU h1 (by simp)
theorem Xch {P c:Addr} {t:Tab} {params:Arguments} {body:Expr} {scope:Scope} {pos:Pos} {clos:List (Str×Addr)} {Q:Value->Shared->Prop} (I:Inv X pins σ H s) (hH:H P=some (.tbl t)) (hq:t.q=X.env.qual ++ "<lambda>") (hcode:X.env.code = .ref c)
  (C:PySem.W.CodeHd X.base c P) (hb:X.base.BuiltinsAt X.mg P) (hgP:mainGlobals≠P) (hcl:closureFor scope X.env=pure clos) (hdef:defaultsOf params X.env=([],[]))
  (h:∀ (f:Addr) (cv ctv:Value) (h':Heap) (tk:Nat) (H':Hp) (more:Array Value),Inv X pins σ H' { s with heap:=h',toks:=tk }->H' P=some (.tbl (t ++ more))->(∀ b,b≠P->H b≠none->H' b=H b)->(∀ b o,b≠P->s.heap.get? b=some o->h'.get? b=some o) ->
   s.heap.objs.size<=f->H' f=none->h'.get? f=some { cls:=.type "function",data:=.func (PySem.W.kla_fn "<lambda>" (X.env.qual ++ "<lambda>") params body scope clos ((X.mg "__name__").getD .none) cv ctv) }->codeAmong pos (t ++ more).ps.toList=some cv->Q (.ref f) { s with heap:=h',toks:=tk }) :
  wpAny (model X.prog X.w) X.A (eval (.Lambda params body scope pos) X.env) Q X.xe s:=by
 obtain ⟨tp,tok,tcs⟩:=(show ObjOk X.prog X.w H s.heap P (.tbl t) from I.hok P _ hH)
 have hge:=I.ok.glob
 have hg:s.heap.Ns mainGlobals X.mg:=I.mod.glob.keeps I.bk
 have C':=C.keeps I.bk
 have hb':=hb.keeps I.bk
 refine PySem.W.kla_eval hdef ?_
 cases hf:codeAmong pos t.ps.toList with
 | some cv =>
  obtain ⟨c1,oc,vs,tq,rfl,r2,r3,r4,r5⟩:=tcs pos cv hf
  refine PySem.W.kla_makeFunctionHit hcl hge hg hcode C' tp tok hf hb' fun ctv h' tk hk hs=>?_
  have k2:∀ (ob:Obj) b o,s.heap.get? b=some o->(h'.push ob).get? b=some o:=fun ob b o e=>Heap.get?_push_of_some _ (hk b o e)
  refine h _ _ ctv _ tk H #[] (I.kept (k2 _)) (by rw [hH,Tab.nil]) (fun _ _ _=>rfl) (fun b o _ e=>k2 _ b o e) hs (I.hok.fresh hs) (Heap.get?_push_size _ rfl) ?_
  rw [Tab.nil]; exact hf
 | none =>
  refine PySem.W.kla_makeFunction hcl hge hg hcode C' tp tok hf hgP hb' fun c1 ctv h' tk hx hc hc2 hr hP'=>?_
  have I1:=I.grown (tk:=tk) hH hx hc (hq ▸ hr) hP'
  have hsz:s.heap.objs.size<=h'.objs.size:=Nat.le_trans hc (Nat.le_of_lt hc2)
  have k2:∀ (ob:Obj) b o,h'.get? b=some o->(h'.push ob).get? b=some o:=fun ob b o e=>Heap.get?_push_of_some _ e
  refine h _ _ ctv _ tk _ _ (I1.kept (k2 _)) Xb (fun b hbP hbn=>?_) (fun b o hb e=>k2 _ b o (hx b o hb e)) hsz (I1.hok.fresh (Nat.le_refl _)) (Heap.get?_push_size _ rfl) ?_
  ·rw [Va hbP,Va]
   intro z
   exact hbn (z ▸ I.hok.fresh hc)
  ·show codeAmong pos (t.ps ++ #[rawInt pos.line,rawInt pos.col,.ref c1]).toList=_
   rw [Array.toList_append]
   exact Wb3 _ tok hf
end
end L2
end
section
namespace L2
open PySem PySem.Spec PyProof.Rows
noncomputable def Vbe (P:Program) (w:World) (K:PySem.W.Frag) (mg:Str->Option Value) (base:Heap) (p y y2:Str) (c c2:Addr) (qual:Str) (scope:Scope) (f:Addr) (cd:Value) (A:Around) (outer:List Env) (s:Shared) (H:Hp) (xe:Value->Shared->Prop):Cx where
 prog:=P
 w:=w
 K:=K
 mg:=mg
 base:=base
 A:=A.deeper (PySem.W.envX qual scope s.heap.objs.size f cd [(y,c),(y2,c2)])
 N:=[p,y,y2]
 s₀:=s
 H₀:=H
 env:=PySem.W.envX qual scope s.heap.objs.size f cd [(y,c),(y2,c2)]
 outer:=outer
 stack:=PySem.W.envX qual scope s.heap.objs.size f cd [(y,c),(y2,c2)] :: outer
 ex:=[]
 calm:=A.handled.isNone
 fn:=fun _=>false
 pn:=[]
 xe:=xe
theorem inv_lam {P:Program} {w:World} {K:PySem.W.Frag} {mg:Str->Option Value} {base:Heap} {p y y2:Str} {c c2:Addr} {qual:Str} {scope:Scope} {f:Addr} {cd:Value} {A:Around} {outer:List Env} {s:Shared} {H:Hp} {xe:Value->Shared->Prop} {u uy uy2:Value} {v vy vy2:V} {h':Heap} {tk:Nat}
  (hkind:scope.kind = .function) (hp:scope.names.lookup p=some .local) (hy:scope.names.lookup y=some .free) (hy2:scope.names.lookup y2=some .free) (hyy:y≠y2) (hcc:c≠c2) (hno:∀ x,(scope.names.lookup x=some .cell∨scope.names.lookup x=some .free)->x=y∨x=y2)
  (e0:Env0 P w K mg base A outer s H) (hc:s.heap.IsCell c (some uy)) (hcH:H c=none) (ry:RelV vy uy) (hc2:s.heap.IsCell c2 (some uy2)) (hcH2:H c2=none) (ry2:RelV vy2 uy2) (r:RelV v u)
  (hns:h'.Ns s.heap.objs.size (fun x=>[(p,u)].reverse.lookup x)) (hk:∀ b o,s.heap.get? b=some o->h'.get? b=some o) :
  Inv (Vbe P w K mg base p y y2 c c2 qual scope f cd A outer s H xe) [] [some v,some vy,some vy2] H { s with heap:=h',toks:=tk }:=by
 have noA:∀ b:Addr,b ∉ (Vbe P w K mg base p y y2 c c2 qual scope f cd A outer s H xe).ex:=fun b z=>absurd (show b∈([]:List Addr) from z) (by simp)
 have lk:∀ {x:Str} {a:Addr},List.lookup x [(y,c),(y2,c2)]=some a->(x=y/\a=c)∨(x=y2/\a=c2):=fun {x a} z=>by
  simp only [List.lookup] at z
  split at z
  ·rename_i q
   exact .inl ⟨by simpa using q,(Option.some.inj z).symm⟩
  ·split at z
   ·rename_i q
    exact .inr ⟨by simpa using q,(Option.some.inj z).symm⟩
   ·cases z
 have yq:(y2 == y)=false:=by simpa using Ne.symm hyy
 have lky:List.lookup y [(y,c),(y2,c2)]=some c:=by simp [List.lookup]
 have lky2:List.lookup y2 [(y,c),(y2,c2)]=some c2:=by simp [List.lookup,yq]
 obtain ⟨oc,hoc,hdc⟩:=hc
 have hc':h'.IsCell c (some uy):=⟨oc,hk _ _ hoc,hdc⟩
 obtain ⟨oc2,hoc2,hdc2⟩:=hc2
 have hc2':h'.IsCell c2 (some uy2):=⟨oc2,hk _ _ hoc2,hdc2⟩
 refine ⟨⟨e0.mod,hkind,rfl,rfl,Nat.le_refl _,fun x z a h1 h2=>?_,fun x hx=>?_,fun x a z _=>absurd z (by simp [Vbe]),fun z=>Option.isNone_iff_eq_none.mp z,Around.frames_deeper e0.frames,.inr ⟨rfl,rfl⟩,fun b z=>absurd z (noA b),e0.bs,e0.bsz,fun b _ _=>noA b,fun b z=>absurd z (noA b),e0.funs,e0.frf⟩,
  rfl,e0.bare,Un.kept hk,⟨_,hns,fun i x v' h1 h2 h3=>?_⟩,fun x a h=>?_,e0.hok.fresh (Nat.le_refl _),fun x a h=>?_,fun q hq=>absurd (show q∈([]:List (Addr×Obj)) from hq) (by simp),e0.hok.kept hk,rfl,e0.hh⟩
 ·rcases lk h1 with ⟨a1,a2⟩ | ⟨a1,a2⟩ <;> rcases lk h2 with ⟨b1,b2⟩ | ⟨b1,b2⟩
  ·rw [a1,b1]
  ·exact absurd (a2.symm.trans b2) hcc
  ·exact absurd (b2.symm.trans a2) hcc
  ·rw [a1,b1]
 ·rcases hno x hx with e | e
  ·subst e; exact ⟨c,lky⟩
  ·subst e; exact ⟨c2,lky2⟩
 ·match i,h1,h2 with
  | 0,h1,h2 =>
   cases h1
   cases h2
   exact ⟨u,r,.inl ⟨hp,by simp [List.lookup]⟩⟩
  | 1,h1,h2 =>
   cases h1
   cases h2
   exact ⟨uy,ry,.inr ⟨.inr hy,c,lky,hc'⟩⟩
  | 2,h1,h2 =>
   cases h1
   cases h2
   exact ⟨uy2,ry2,.inr ⟨.inr hy2,c2,lky2,hc2'⟩⟩
  | i + 3,h1,h2=>simp [Vbe] at h1
 ·rcases lk h with ⟨_,a2⟩ | ⟨_,a2⟩
  ·exact ⟨_,a2 ▸ hc'⟩
  ·exact ⟨_,a2 ▸ hc2'⟩
 ·rcases lk h with ⟨_,a2⟩ | ⟨_,a2⟩
  ·rw [a2]; exact hcH
  ·rw [a2]; exact hcH2
section
variable {X:Cx} {pins:List (Addr×Obj)} {σ:List (Option V)} {H:Hp} {s:Shared}
theorem Vch {A:Around} {E:Value->Shared->Prop} {Q:Value->Shared->Prop} {p y y2:Str} {c c2 f:Addr} {name qual:Str} {params:Arguments} {body:Expr} {scope:Scope} {pm cv ctv u uy uy2:Value} {v vy vy2:V} {Qk:VK} {t:TE}
  (I:Inv X pins σ H s) (e0:Env0 X.prog X.w X.K X.mg X.base A X.stack s H) (hroom:A.depth < recursionLimit)
  (hf:s.heap.get? f=some { cls:=.type "function",data:=.func (PySem.W.kla_fn name qual params body scope [(y,c),(y2,c2)] pm cv ctv) }) (hcd:s.heap.CodeRec cv qual)
  (hbind:bindArgs (PySem.W.kla_fn name qual params body scope [(y,c),(y2,c2)] pm cv ctv) ⟨[u],[]⟩=pure [(p,u)])
  (hkind:scope.kind = .function) (hco:scope.isCoroutine=false) (hgen:scope.isGenerator=false) (hp:scope.names.lookup p=some .local) (hy:scope.names.lookup y=some .free) (hy2:scope.names.lookup y2=some .free) (hyy:y≠y2) (hcc:c≠c2) (hno:∀ x,(scope.names.lookup x=some .cell∨scope.names.lookup x=some .free)->x=y∨x=y2) (hcell:∀ x∈scope.names,x.2≠.cell)
  (hc:s.heap.IsCell c (some uy)) (hcH:H c=none) (ry:RelV vy uy) (hc2:s.heap.IsCell c2 (some uy2)) (hcH2:H c2=none) (ry2:RelV vy2 uy2) (r:RelV v u)
  (hb:∀ xe:Value->Shared->Prop,PE (Vbe X.prog X.w X.K X.mg X.base p y y2 c c2 qual scope f cv A X.stack s H xe) body t) (ht:t [some v,some vy,some vy2] H Qk)
  (h:∀ (v':V) (u':Value) (H':Hp) (s':Shared),Inv X pins σ H' s'->Un (frs X.stack) [] H H' s.heap s'.heap->RelV v' u'->Qk v' H'->Q u' s') :
  wpAny (model X.prog X.w) A (call (.ref f) [u]) Q E s:=by
 refine wpAny_call (PySem.W.kla_callFunE hroom hf rfl hco hgen rfl hcd ?_)
 rw [hbind]
 have hloc:∀ x∈[(p,u)],scope.names.lookup x.1=some .local:=fun x hx=>by
  rw [List.mem_singleton.mp hx]; exact hp
 refine wpAny_pure (wpAny_newFunctionEnv hcell hloc (fun h₁ hns hsb=>⟨(I.nolimit).fresh _ hsb,?_⟩) hkind)
 have hk₁:∀ b o,s.heap.get? b=some o->h₁.get? b=some o:=fun b o e=>hsb.extBut b o (Nat.ne_of_lt (Heap.lt_size e)) (Heap.get?_push_of_some _ e)
 refine PySem.W.kla_codeExpr ?_
 have I':=inv_lam (qual:=qual) (f:=f) (cd:=cv) (xe:=fun e' s'=>wpAny (model X.prog X.w) (A.deeper (PySem.W.envX qual scope s.heap.objs.size f cv [(y,c),(y2,c2)])) (leaving (PySem.W.envX qual scope s.heap.objs.size f cv [(y,c),(y2,c2)]) e') (fun _ s''=>E e' s'') (fun e'' s''=>E e'' s'') s') (tk:=s.toks + 1) hkind hp hy hy2 hyy hcc hno e0 hc hcH ry hc2 hcH2 ry2 r hns hk₁
 refine wpAny_mono (hb _ [] _ _ H Qk I' ht) (fun u' s' z=>?_) fun e' s' z=>z
 obtain ⟨v',H',I2,r',q⟩:=z
 have un:Un (frs X.stack) [] H H' s.heap s'.heap:=I2.base
 have I3:Inv X pins σ H' s':=by
  have:=I.call (g':=s'.gens) (t':=s'.toks) (d':=s'.drawn) (ch:=[]) un I2.hok I2.bare (fun b hb=>by simp at hb)
  have hos:s'.os=s.os:=I2.os
  obtain ⟨hp',g',d',t',o'⟩:=s'
  cases hos
  exact this
 exact h v' u' H' s' I3 un r' q
end
end L2
end
section
set_option maxHeartbeats 2000000
namespace L2
open PySem PySem.Spec PyProof.Rows
section
variable {X:Cx} {pins:List (Addr×Obj)} {σ:List (Option V)} {H:Hp} {s:Shared}
theorem Inv.adopt {a:Addr} {o:HO} (I:Inv X pins σ H s) (f:FpOk X pins H a) (new:ObjOk X.prog X.w (upd H a o) s.heap a o):Inv X pins σ (upd H a o) s:=by
 obtain ⟨hn,hL,hf,h1,h2,h3⟩:=f
 have ne:∀ {b:Addr} {u:HO},H b=some u->b≠a:=fun e=>Wb e hn
 have hok:HOk X.prog X.w (upd H a o) s.heap:=fun b u e=>by
  by_cases hb:b=a
  ·subst hb; rw [Xb] at e; cases e; exact new
  ·rw [Va hb] at e
   exact (I.hok b u e).stay (fun c v _ q=>q) (fun c q=>by rw [Va (ne q)]; exact q) fun c xs q=>by rw [Va (ne q)]; exact q
 have u:Un (frs X.stack) [a] H (upd H a o) s.heap s.heap:=⟨fun b ob q _ _ _=>q,fun b ob q _ _ _=>⟨ob.slots,q⟩,fun b ob _ n hx=>by rw [Va (by simpa using hx)]; exact n,fun b ob q _=>⟨ob,q⟩,
  fun b xs q=>by rw [Va (ne q)]; exact q,fun b ob xs q=>by rw [Va (ne q)]; exact q,fun b ps q=>⟨#[],by rw [Va (ne q),q,Tab.nil]⟩⟩
 have:=I.call (g':=s.gens) (t':=s.toks) (d':=s.drawn) (ch:=[a]) u hok I.bare fun b hb=>by
  have e:b=a:=by simpa using hb
  subst e
  exact ⟨h1,hL,h2,h3⟩
 exact this
noncomputable def lamObj (X:Cx) (params:Arguments) (body:Expr) (scope:Scope) (clos:List (Str×Addr)) (cv ctv:Value):Obj:={ cls:=.type "function",data:=.func (PySem.W.kla_fn "<lambda>" (X.env.qual ++ "<lambda>") params body scope clos ((X.mg "__name__").getD .none) cv ctv) }
noncomputable def MadeL (X:Cx) (P:Addr) (params:Arguments) (body:Expr) (scope:Scope) (pos:Pos) (clos:List (Str×Addr)) (H H':Hp) (f:Addr):Prop :=
 ∃ (cv ctv:Value) (t:Tab) (more:Array Value),H P=some (.tbl t)/\t.q=X.env.qual ++ "<lambda>"/\H f=none/\(∀ b,b≠P->H b≠none->H' b=H b)/\H' P=some (.tbl (t ++ more))/\codeAmong pos (t ++ more).ps.toList=some cv/\H' f=some (.frz (lamObj X params body scope clos cv ctv) (.own f))
theorem pe_lam {P c:Addr} {params:Arguments} {body:Expr} {scope:Scope} {pos:Pos} {clos:List (Str×Addr)} (hcode:X.env.code = .ref c) (C:PySem.W.CodeHd X.base c P) (hb:X.base.BuiltinsAt X.mg P) (hgP:mainGlobals≠P) (hcl:closureFor scope X.env=pure clos) (hdef:defaultsOf params X.env=([],[])) :
  PE X (.Lambda params body scope pos) (fun σ H Q=>(∃ t,H P=some (.tbl t)/\t.q=X.env.qual ++ "<lambda>")/\∀ f H',MadeL X P params body scope pos clos H H' f->Q (.ref f) H'):=by
 intro pins s σ H Q I h
 obtain ⟨⟨t,hH,hq⟩,h⟩:=h
 refine Xch I hH hq hcode C hb hgP hcl hdef fun f cv ctv h' tk H' more I' hP' hold hk hf hfn hfo hcv=>?_
 have hfH:H f=none:=I.hok.fresh hf
 have fp:FpOk X pins H' f:=I.fpOk hf hfn
 have I2:=I'.adopt (o:=.frz (lamObj X params body scope clos cv ctv) (.own f)) fp ⟨hfo,_,hfo⟩
 refine ⟨.ref f,_,I2,rfl,h f _ ⟨cv,ctv,t,more,hH,hq,hfH,fun b hb1 hb2=>?_,?_,hcv,Xb⟩⟩
 ·rw [Va (fun z:b=f=>hb2 (by rw [z]; exact hfH))]; exact hold b hb1 hb2
 ·rw [Va (fun z=>by rw [<- z,hP'] at hfn; cases hfn)]; exact hP'
noncomputable def tKeyL (K:PySem.W.Frag):TE:=tTup (Z9 (tOp (rIxL K) (tVar 1) (tVar 0)) (Z9 (tOp (rI (fun _ j=>0 < j) fun i j=>.int (i % j)) (tOp (rI0 fun i j=>.int (i + j)) (tOp (rI CMul fun i j=>.int (i * j)) (tVar 0) (tC (.int 7))) (tCB (fun xs H Q=>∃ p ys,xs=[.ref p]/\(SqL K H p ys∨SqT K H p ys)/\Q (.int ys.length) H) (Z9 (tVar 2) tNil))) (tC (.int 5))) tNil))
noncomputable def Z6 (p:Str) (ap:Pos):Arguments:={ posonlyargs:=[],args:=[{ arg:=p,annotation:=none,pos:=ap }],vararg:=none,kwonlyargs:=[],kw_defaults:=[],kwarg:=none,defaults:=[] }
noncomputable def Yv (p y y2 l:Str) (q:Nat->Pos) (k7 k5 kx:Nat):Expr:=.Tuple [.Subscript (.Name y2 (q 1)) (.Name p (q 2)) (q 3),.BinOp (.BinOp (.BinOp (.Name p (q 4)) .Mult (.Constant (.int 7) k7 (q 5)) (q 6)) .Add (.Call (.Name l (q 7)) [.Name y (q 8)] [] (q 9)) (q 10)) .Mod (.Constant (.int 5) k5 (q 11)) (q 12)] kx (q 13)
noncomputable def Wg (p y y2 l:Str):Scope:={ kind:=.function,names:=[(p,.local),(y,.free),(y2,.free),(l,.globalImplicit)],isGenerator:=false,isCoroutine:=false,more:=[] }
theorem pe_key {Y:Cx} {q:Nat->Pos} {k7 k5 kx:Nat} (hN:Y.N=[(Str.ofString "number"),(Str.ofString "sizes"),(Str.ofString "found")]) (hp:Vis Y.env.scope (Str.ofString "number")) (hy:Vis Y.env.scope (Str.ofString "found")) (hy2:Vis Y.env.scope (Str.ofString "sizes")) (hg:Gl Y (Str.ofString "len")) (hm:Y.mg (Str.ofString "len")=none) :
  PE Y (Yv (Str.ofString "number") (Str.ofString "found") (Str.ofString "sizes") (Str.ofString "len") q k7 k5 kx) (tKeyL Y.K):=by
 have v0:∀ q,PE Y (.Name (Str.ofString "number") q) (tVar 0):=fun q=>Wa3 (i:=0) (by rw [hN]; rfl) hp (by decide +kernel) (by decide +kernel)
 have v1:∀ q,PE Y (.Name (Str.ofString "found") q) (tVar 2):=fun q=>Wa3 (i:=2) (by rw [hN]; rfl) hy (by decide +kernel) (by decide +kernel)
 have v2:∀ q,PE Y (.Name (Str.ofString "sizes") q) (tVar 1):=fun q=>Wa3 (i:=1) (by rw [hN]; rfl) hy2 (by decide +kernel) (by decide +kernel)
 exact pe_tup (Yl (pe_ix Wbs (v2 _) (v0 _) (fun _ _=>rfl)) (Yl (Zcc op_mod (Zcc op_add (Zcc op_mul (v0 _) Vam) (Vg Zaq hg hm (by kernel_rfl) (Yl (v1 _) Zw) (by decide +kernel) (by decide +kernel))) Vam) Zw))
theorem Wch {p y y2 l:Str} {env:Env} {c c2:Addr} (h:env.cells.lookup y=some c) (h2:env.cells.lookup y2=some c2):closureFor (Wg p y y2 l) env=pure [(y2,c2),(y,c)]:=by
 unfold closureFor Wg cellOf
 simp [h,h2]
noncomputable abbrev nN:Str:=Str.ofString "number"
noncomputable abbrev nF:Str:=Str.ofString "found"
noncomputable abbrev nZ:Str:=Str.ofString "sizes"
noncomputable abbrev nL:Str:=Str.ofString "len"
noncomputable def KsoR (X:Cx) (P:Addr) (i j:Nat) (σ:List (Option V)) (Q:VK) (x:V) (H1:Hp):Prop:=∃ (l:Addr) (is sz:List Int) (da db:Addr) (fs:List V),x = .ref l/\SqL X.K H1 l (is.map V.int)/\is.length < 64/\(∃ t,H1 P=some (.tbl t)/\t.q=X.env.qual ++ "<lambda>") /\
 σ[i]? = some (some (.ref da))/\σ[j]? = some (some (.ref db))/\H1 da=some (.lst (sz.map V.int))/\H1 db=some (.lst fs)/\(∀ z∈is,0<=z/\z < (sz.length:Int)) /\
 ∀ (H2:Hp) (q:Addr) (is':List Int) (t':Tab),is'.Perm is->H1 q=none->H2 q=some (.lst (is'.map V.int))->(∀ b o,b≠P->H1 b=some o->H2 b=some o)->H2 P=some (.tbl t')->t'.q=X.env.qual ++ "<lambda>"->Q (.ref q) H2
theorem at_int {sz:List Int} {z:Int} (h0:0<=z) (h1:z < (sz.length:Int)):atI (sz.map V.int) z=some (.int (sz.getD z.toNat 0)):=by
 have h2:z.toNat < sz.length:=by omega
 have e:ixN (sz.map V.int).length z=some z.toNat:=by
  unfold ixN
  rw [if_pos h0,if_pos (by simpa using h1)]
 unfold atI
 rw [e,Option.bind_some]
 simp [h2]
noncomputable def tKso (X:Cx) (P:Addr) (i j:Nat) (ta:TE):TE:=fun σ H Q=>ta σ H (KsoR X P i j σ Q)
noncomputable def one1 (R:V->Hp->Prop) (vs:List V) (H:Hp):Prop:=match vs with | [x]=>R x H | _=>False
theorem Wag {R:V->Hp->Prop} {vs:List V} {H:Hp} (h:one1 R vs H):∃ x,vs=[x]/\R x H:=by
 match vs,h with
 | [x],h=>exact ⟨x,rfl,h⟩
theorem Xo:∀ {is:List Int} {us:List Value},Vals (is.map V.int) us->IntsAre us is
 | [],_,r=>by cases r; exact .nil
 | z :: is,_,r=>by
  cases r with
  | cons r1 r2 =>
   obtain ⟨t,rfl⟩:=r1
   exact .cons z t (Xo r2)
theorem Xcc {a:Expr} {ta:TE} {P c:Addr} {ap lp np kp pos:Pos} {q:Nat->Pos} {k7 k5 kx i j k:Nat} (hr:Room k X.A) (g:Gl X (Str.ofString "sorted")) (m:X.mg (Str.ofString "sorted")=none) (ml:X.mg nL=none) (ha:PE X a ta) (hs:starEach [a] X.env=(false,eval a X.env) :: starEach [] X.env)
  (hcode:X.env.code = .ref c) (C:PySem.W.CodeHd X.base c P) (hb:X.base.BuiltinsAt X.mg P) (hgP:mainGlobals≠P) (hNz:X.N[i]? = some nZ) (hNf:X.N[j]? = some nF) (hkz:X.env.kindOf nZ=some .cell∨X.env.kindOf nZ=some .free) (hkf:X.env.kindOf nF=some .cell∨X.env.kindOf nF=some .free) (hbd:∀ (cl:List (Str×Addr)) (pm cv ctv u:Value),bindArgs (PySem.W.kla_fn "<lambda>" (X.env.qual ++ "<lambda>") (Z6 nN ap) (Yv nN nF nZ nL q k7 k5 kx) (Wg nN nF nZ nL) cl pm cv ctv) ⟨[u],[]⟩=pure [(nN,u)]) :
  PE X (.Call (.Name (Str.ofString "sorted") np) [a] [⟨some (Str.ofString "key"),.Lambda (Z6 nN ap) (Yv nN nF nZ nL q k7 k5 kx) (Wg nN nF nZ nL) lp,kp⟩] pos) (tKso X P i j ta):=by
 intro pins s σ H Q I h
 obtain ⟨cz,hcz⟩:=I.ok.has nZ hkz
 obtain ⟨cf,hcf⟩:=I.ok.has nF hkf
 have hzf:(nZ:Str)≠nF:=by decide +kernel
 have hcc:cz≠cf:=fun e=>hzf (I.ok.inj _ _ cz hcz (e ▸ hcf))
 refine wpAny_Call_Name_kw (Vt I g m (show bootBuiltins (Str.ofString "sorted")=some (.builtin "sorted") by kernel_rfl) ?_ (by decide +kernel) (by decide +kernel))
 have hA:PA X [a] (Z9 ta tNil):=Yl ha Zw hs
 have hK:PK X [⟨some (Str.ofString "key"),.Lambda (Z6 nN ap) (Yv nN nF nZ nL q k7 k5 kx) (Wg nN nF nZ nL) lp,kp⟩] (Z9 _ tNil):=pk_cons (pe_lam hcode C hb hgP (Wch hcf hcz) rfl) pk_nil
 have hs':backTo pos (starEach [a] X.env)=(false,eval a X.env) :: backTo pos (starEach [] X.env):=by rw [hs]; rfl
 refine callWith_kw (thn (hA pos pins s σ H (one1 (KsoR X P i j σ Q)) I h) fun us s1 ⟨vs,H1,I1,r1,q1⟩=>?_) hs' (by rw [hs']; rfl) rfl rfl
 obtain ⟨x,rfl,q1⟩:=Wag q1
 obtain ⟨l,is,sz,da,db,fs,rfl,hl,h64,ht,hσz,hσf,hda,hdb,hrg,qq⟩:=q1
 let gf:Int->Int:=fun z=>sz.getD z.toNat 0
 let gh:Int->Int:=fun z=>(z * 7 + (fs.length:Int)) % 5
 obtain ⟨u,rfl,ru⟩:∃ u,us=[u]/\RelV (.ref l) u:=by
  cases r1 with
  | cons a b=>cases b; exact ⟨_,rfl,a⟩
 cases ru
 refine thn (hK pos pins s1 σ H1 (one1 fun v H2=>∃ f,v = .ref f/\MadeL X P (Z6 nN ap) (Yv nN nF nZ nL q k7 k5 kx) (Wg nN nF nZ nL) lp [(nZ,cz),(nF,cf)] H1 H2 f) I1 ⟨ht,fun f H2 z=>⟨f,rfl,z⟩⟩) fun ks s2 ⟨zs,H2,I2,r2,q2⟩=>?_
 obtain ⟨x,rfl,f,rfl,cv,ctv,t,more,hP1,htq,hf1,hold,hP2,hcv,hf2⟩:=Wag q2
 obtain ⟨u,rfl,ru⟩:∃ u,ks=[u]/\RelV (.ref f) u:=by
  cases r2 with
  | cons a b=>cases b; exact ⟨_,rfl,a⟩
 cases ru
 show wpAny _ _ (call (.builtin "sorted") [.ref l] [(Str.ofString "key",.ref f)]) _ _ _
 have keep2:∀ b o,b≠P->H1 b=some o->H2 b=some o:=fun b o n e=>by rw [hold b n (by rw [e]; simp)]; exact e
 have nP:∀ {b:Addr} {o:HO},H1 b=some o->o≠.tbl t->b≠P:=fun e n z=>by rw [z,hP1] at e; exact n (Option.some.inj e).symm
 have hl2:SqL X.K H2 l (is.map V.int):=by
  rcases hl with (z | ⟨o,z⟩) | z
  ·exact .inl (.inl (keep2 _ _ (nP z (by simp)) z))
  ·exact .inl (.inr ⟨o,keep2 _ _ (nP z (by simp)) z⟩)
  ·exact .inr z
 have hda2:H2 da=some (.lst (sz.map V.int)):=keep2 _ _ (nP hda (by simp)) hda
 have hdb2:H2 db=some (.lst fs):=keep2 _ _ (nP hdb (by simp)) hdb
 obtain ⟨its,rits,pl,_⟩:=I2.list hl2
 have iai:=Xo rits
 have hlen:its.length=is.length:=iai.length
 have hil:s2.heap.IsList l its.toArray:=by
  exact PySem.PlainL.isList pl
 have fpa:∀ {H':Hp},H' (s2.heap.objs.size + 1)=none->FpOk X pins H' (s2.heap.objs.size + 1):=fun hn=>I2.fpOk (by omega) hn
 have fpk:∀ {H':Hp},H' (s2.heap.objs.size + 3)=none->FpOk X pins H' (s2.heap.objs.size + 3):=fun hn=>I2.fpOk (by omega) hn
 have nfr:∀ {s':Shared} {H':Hp} {b:Addr},Inv X pins σ H' s'->FpOk X pins H' b->b ∉ frs X.stack:=fun I' fp z=>by
  have:=I'.stkSub _ z
  rcases List.mem_cons.mp this with e | e
  ·exact fp.2.1 e
  ·exact fp.2.2.1 e
 have hat:∀ (j:Nat) (z:Int),is[j]? = some z->∃ tz,its[j]? = some (Value.int z tz):=by
  intro j z e
  have hj:j < its.length:=by rw [hlen]; exact (List.getElem?_eq_some_iff.mp e).1
  obtain ⟨tz,e2⟩:=IntsAre.int_at iai j its[j] (List.getElem?_eq_getElem hj)
  refine ⟨tz,?_⟩
  rw [List.getElem?_eq_getElem hj,e2]
  rw [List.getElem?_eq_some_iff] at e
  obtain ⟨hz,e⟩:=e
  simp [hz,e]
 refine DW.sorted_key (lt:=DW.ltTA (is.map fun z=>[gf z,gh z])) (J:=fun ks s'=>∃ H',Inv X pins σ H' s'/\(∀ b o,H2 b=some o->H' b=some o)/\H' (s2.heap.objs.size + 1)=none/\H' (s2.heap.objs.size + 3)=none/\∀ (j:Nat) (kv:Value),ks[j]? = some kv->∃ (x:Addr) (z:Int),kv = .ref x/\is[j]? = some z/\H' x=some (.tup [.int (gf z),.int (gh z)]))
  hil (by omega) (fun a b=>DW.ltI_asym) (fun a b c=>DW.ltI_trans) ?_ ?_ ?_ ?_ ?_
 ·intro h' k z
  exact ⟨H2,I2.kept k,fun _ _ e=>e,I2.hok.fresh (by omega),I2.hok.fresh (by omega),fun j kv e=>by simp at e⟩
 ·rintro ks s' h' ⟨H',I',e1,n1,n2,hks⟩ sb
  obtain ⟨_,hL,_,k1,k2,k3⟩:=fpk n2
  exact ⟨H',I'.turned (t':=s'.toks) (fun b o nb e=>(sb.2 b nb).trans e) n2 hL k1 k2 k3,e1,n1,n2,hks⟩
 ·rintro x ks s' ex ⟨H',I',e1,n1,n2,hks⟩ ⟨ok,hok⟩ ⟨oa,hoa⟩
  have hj:ks.length < is.length:=by rw [<- hlen]; exact (List.getElem?_eq_some_iff.mp ex).1
  have hz:is[ks.length]? = some is[ks.length]:=List.getElem?_eq_getElem hj
  generalize is[ks.length]=z at hz
  obtain ⟨tz,ez⟩:=hat _ _ hz
  rw [ex] at ez
  cases ez
  have hzm:z∈is:=List.mem_of_getElem? hz
  have hfo:=(show ObjOk X.prog X.w H' s'.heap f (.frz _ _) from I'.hok f _ (e1 _ _ hf2)).1
  obtain ⟨tp,tok,tcs⟩:=(show ObjOk X.prog X.w H' s'.heap P (.tbl _) from I'.hok P _ (e1 _ _ hP2))
  obtain ⟨c1,oc,cvs,tq,rfl,rc2,rc3,rc4,rc5⟩:=tcs lp cv hcv
  obtain ⟨mm,hnn,hll⟩:=I'.loc
  obtain ⟨uu,ruu,lk⟩:=hll i nZ _ hNz hσz (.inr hkz)
  cases ruu
  have hcell:s'.heap.IsCell cz (some (.ref da)):=by
   rcases lk with ⟨z1,_⟩ | ⟨_,c3,z2,z3⟩
   ·rcases hkz with hy | hy <;> (rw [hy] at z1; cases z1)
   ·rw [hcz] at z2; cases z2; exact z3
  obtain ⟨uu,ruu,lk⟩:=hll j nF _ hNf hσf (.inr hkf)
  cases ruu
  have hcell2:s'.heap.IsCell cf (some (.ref db)):=by
   rcases lk with ⟨z1,_⟩ | ⟨_,c3,z2,z3⟩
   ·rcases hkf with hy | hy <;> (rw [hy] at z1; cases z1)
   ·rw [hcf] at z2; cases z2; exact z3
  obtain ⟨hz0,hz1⟩:=hrg z hzm
  have l1:List.lookup nN (Wg nN nF nZ nL).names=some .local:=by decide +kernel
  have l2:List.lookup nF (Wg nN nF nZ nL).names=some .free:=by decide +kernel
  have l3:List.lookup nZ (Wg nN nF nZ nL).names=some .free:=by decide +kernel
  have l4:List.lookup nL (Wg nN nF nZ nL).names=some .globalImplicit:=by decide +kernel
  refine Vch (A:=X.A.in1.in1) (p:=nN) (y:=nZ) (y2:=nF) (c:=cz) (c2:=cf) (v:=.int z) (vy:=.ref da) (vy2:=.ref db) (t:=tKeyL X.K) (Qk:=fun v' H''=>∃ x,v' = .ref x/\H' x=none/\H''=upd H' x (.tup [.int (gf z),.int (gh z)])) I' I'.env0.in1.in1 (by have:=hr.depth; exact this) hfo ⟨c1,oc,cvs,tq,rfl,rc3,rc4,by rw [rc5]; show some (Value.str t.q tq)=_; rw [htq]⟩ (hbd _ _ _ _ _) rfl rfl rfl
   (by decide +kernel) (by decide +kernel) (by decide +kernel) hzf hcc (fun x hx=>?_) (by simp [Wg]) hcell (I'.freeC nZ cz hcz) rfl hcell2 (I'.freeC nF cf hcf) rfl ⟨tz,rfl⟩ (fun xe=>pe_key (Y:=Vbe _ _ _ _ _ _ _ _ _ _ _ _ _ _ _ _ _ _ xe) rfl (.inl l1) (.inr (.inr l2)) (.inr (.inr l3)) l4 ml) ?_ ?_
  ·have e0:(Wg nN nF nZ nL).names=[(nN,.local),(nF,.free),(nZ,.free),(nL,.globalImplicit)]:=rfl
   rw [e0] at hx
   simp only [List.lookup] at hx
   split at hx
   ·rcases hx with hx | hx <;> cases hx
   ·split at hx
    ·rename_i _ e; exact .inr (by simpa using e)
    ·split at hx
     ·rename_i _ e; exact .inl (by simpa using e)
     ·split at hx
      ·rcases hx with hx | hx <;> cases hx
      ·rcases hx with hx | hx <;> cases hx
  ·refine ⟨.ref da,rfl,.int z,rfl,da,sz.map V.int,z,.int (gf z),rfl,rfl,.of (e1 _ _ hda2),at_int hz0 hz1,?_⟩
   refine ⟨.int z,rfl,z,7,rfl,rfl,.inr ⟨by decide,by decide⟩,.ref db,rfl,db,fs,rfl,.inl (.of (e1 _ _ hdb2)),z * 7,fs.length,rfl,rfl,z * 7 + fs.length,5,rfl,rfl,(show (0:Int) < 5 by decide),?_⟩
   exact ⟨by rw [sizeLine_eq]; simp,fun x hx=>⟨x,rfl,hx,rfl⟩⟩
  ·rintro v' u' H'' s'' I'' un ru ⟨x,rfl,hx,rfl⟩
   cases ru
   have na:(upd H' x (.tup [.int (gf z),.int (gh z)])) (s2.heap.objs.size + 1)=none:=un.free _ _ hoa n1 (by simp)
   have nk:(upd H' x (.tup [.int (gf z),.int (gh z)])) (s2.heap.objs.size + 3)=none:=un.free _ _ hok n2 (by simp)
   refine ⟨⟨_,I'',fun b o e=>by rw [Va (Wb (e1 b o e) hx)]; exact e1 b o e,na,nk,fun j kv e=>?_⟩,fun o e=>un.keep _ o e n2 (nfr I' (fpk n2)) (by simp),fun o e=>un.keep _ o e n1 (nfr I' (fpa n1)) (by simp)⟩
   by_cases hjk:j < ks.length
   ·rw [List.getElem?_append_left hjk] at e
    obtain ⟨x1,z1,a1,a2,a3⟩:=hks j kv e
    exact ⟨x1,z1,a1,a2,by rw [Va (Wb a3 hx)]; exact a3⟩
   ·have hj2:j=ks.length:=by
     have:=(List.getElem?_eq_some_iff.mp e).1
     simp at this; omega
    subst hj2
    simp at e
    subst e
    exact ⟨x,z,rfl,hz,Xb⟩
 ·rintro ks s' hkl ⟨H',I',e1,n1,n2,hks⟩ h2
  have hcmp:=DW.comp_ti (prog:=X.prog) (w:=X.w) (A:=X.A.in1.in1) (h:=s'.heap) (vs:=ks) (r:=is.map fun z=>[gf z,gh z]) (by simp; omega) (by simp) (fun j v x e3 e4=>by
   obtain ⟨x1,z1,rfl,a2,a3⟩:=hks j v e3
   simp only [List.getElem?_map,a2,Option.map_some,Option.some.injEq] at e4
   subst e4
   obtain ⟨_,its',ri,o',g1,g2,n',g3,_⟩:=(show ObjOk X.prog X.w H' s'.heap x1 (.tup _) from I'.hok x1 _ a3)
   exact ⟨x1,o',its',n',rfl,g1,g2,g3,Xo (is:=[gf z1,gh z1]) ri⟩)
  obtain ⟨κ,k1,k2⟩:=hcmp (by omega) s' fun _ _ e=>e
  exact ⟨κ,k1,fun i j C h1 h2=>k2 i j C (by omega) (by omega)⟩
 ·rintro ks s' p' h' e2 hkl ⟨H',I',e1,n1,n2,hks⟩ pp up kp sz ha'
  have iv:∀ {b:Addr} {u:HO},H' b=some u->b≠s2.heap.objs.size + 1/\b≠s2.heap.objs.size + 3:=fun e=>⟨Wb e n1,Wb e n2⟩
  have I3:Inv X pins σ H' { s' with heap:=h' }:=by
   refine I'.call (g':=s'.gens) (t':=s'.toks) (d':=s'.drawn) (ch:=[s2.heap.objs.size + 1,s2.heap.objs.size + 3]) ⟨fun b o e _ _ hx=>kp b o (fun z=>hx (by simp [z])) (fun z=>hx (by simp [z])) e,fun b o e _ _ hx=>⟨o.slots,kp b o (fun z=>hx (by simp [z])) (fun z=>hx (by simp [z])) e⟩,fun _ _ _ n _=>n,fun b o e hx=>⟨o,kp b o (fun z=>hx (by simp [z])) (fun z=>hx (by simp [z])) e⟩,fun _ _ e=>e,fun _ _ _ e=>e,fun b ps e=>⟨#[],by rw [e,Tab.nil]⟩⟩ (fun b u e=>?_) I'.bare fun b hb=>?_
   ·refine (I'.hok b u e).stay (fun c v hc q=>?_) (fun _ q=>q) fun _ _ q=>q
    have:c≠s2.heap.objs.size + 1/\c≠s2.heap.objs.size + 3:=by
     rcases hc with z | z
     ·rw [z]; exact iv e
     ·exact iv z
    exact kp c v this.1 this.2 q
   ·rcases List.mem_cons.mp hb with rfl | hb
    ·obtain ⟨_,hL,_,k1,k2,k3⟩:=fpa n1
     exact ⟨k1,hL,k2,k3⟩
    ·obtain rfl:b=s2.heap.objs.size + 3:=by simpa using hb
     obtain ⟨_,hL,_,k1,k2,k3⟩:=fpk n2
     exact ⟨k1,hL,k2,k3⟩
  have pz:p'.size=is.length:=by have:=Array.perm_iff_toList_perm.mp pp; have:=this.length_eq; simp at this; omega
  have hlt:∀ j∈p'.toList,j < is.length:=fun j hj=>by
   have:=(Array.perm_iff_toList_perm.mp pp).mem_iff.mp hj
   simp at this; omega
  have vout:∀ l:List Nat,(∀ j∈l,j < is.length)->Vals ((l.map fun j=>is[j]?.getD 0).map V.int) (l.map fun j=>its.getD j Value.none):=by
   intro l
   induction l with
   | nil=>intro _; exact .nil
   | cons j l ih =>
    intro hj
    have h1:j < is.length:=hj j (by simp)
    obtain ⟨tz,ez⟩:=hat j is[j] (List.getElem?_eq_getElem h1)
    refine .cons ⟨tz,?_⟩ (ih fun j' h'=>hj j' (by simp [h']))
    simp [ez,h1]
  have hn1:=n1
  have I4:=I3.adopt (a:=s2.heap.objs.size + 1) (o:=.lst ((DW.outZ is p').map V.int)) (fpa n1) ⟨by simp [DW.outZ,sizeLine_eq]; omega,DW.outOf its p',e2,vout p'.toList hlt,ha'⟩
  refine ⟨.ref (s2.heap.objs.size + 1),_,I4,rfl,qq _ _ (DW.outZ is p') (t ++ more) (DW.outZ_perm (by rw [<- hlen]; exact pp)) ?_ Xb (fun b o nb e=>?_) (by rw [Va (Wb (e1 _ _ hP2) n1)]; exact e1 _ _ hP2) htq⟩
  ·cases z:H1 (s2.heap.objs.size + 1) with
   | none=>rfl
   | some o =>
    by_cases zp:s2.heap.objs.size + 1=P
    ·exact absurd (I2.hok.lt hP2) (by rw [<- zp]; exact Nat.not_lt.mpr (Nat.le_succ _))
    ·exact absurd (I2.hok.lt (keep2 _ _ zp z)) (Nat.not_lt.mpr (Nat.le_succ _))
  ·have e':=e1 _ _ (keep2 b o nb e)
   rw [Va (Wb e' n1)]; exact e'
end
end L2
end
section
namespace DW
open PySem PySem.Spec PyProof.Rows L2
section
variable {X:Cx}
theorem Xm {K:PySem.W.Frag} {b:String} {vs:List V} {H:Hp} {Q:VK} (h:lowA K (wBlt b) vs H Q) (hb:b≠"min3":=by decide):(∃ d v θ μ Qd,vs=[v]/\WOk K H θ μ/\Rp K H θ μ d v/\wBlt b [d] μ Qd/\Fin K H θ μ Qd Q)∨∃ d e v w θ μ Qd,vs=[v,w]/\WOk K H θ μ/\Rp K H θ μ d v/\Rp K H θ μ e w/\wBlt b [d,e] μ Qd/\Fin K H θ μ Qd Q:=by
 obtain ⟨ds,θ,μ,Qd,wk,rs,hw,f⟩:=h
 match ds,hw with
 | [],hw=>exact hw.elim
 | [d],hw =>
  obtain ⟨v,r,rfl,r1,r2⟩:=rs.cons_inv
  cases r2.nil_inv
  exact .inl ⟨d,v,θ,μ,Qd,rfl,wk,r1,hw,f⟩
 | [d,e],hw =>
  obtain ⟨v,r,rfl,r1,r2⟩:=rs.cons_inv
  obtain ⟨w,r,rfl,r3,r4⟩:=r2.cons_inv
  cases r4.nil_inv
  exact .inr ⟨d,e,v,w,θ,μ,Qd,rfl,wk,r1,r3,hw,f⟩
 | [d,e,g],hw=>exact (wB3_no hb hw).elim
 | _ :: _ :: _ :: _ :: _,hw=>exact hw.elim
theorem blt_len : CallR X (.builtin "len") (lowA X.K (wBlt "len")) := by
  intro pins s σ H xs us Q I r h
  rcases Xm h with ⟨d, v, θ, μ, Qd, rfl, wk, rd, hw, f⟩ | ⟨d, e, v, w, θ, μ, Qd, rfl, wk, rd, re, hw, f⟩
  . simp only [wBlt] at hw
    split at hw
    . rename_i n hn
      refine Zck pins s σ H _ us Q I r ⟨v, n, rfl, ?_, f.at wk Vd hw⟩
      have seq : ∀ {ds : List D}, Zb μ d = some ds -> n = ds.length -> LenV X.K v H n := fun {ds} hq hl => by
        obtain ⟨a, xs, rfl, hx, r'⟩ := Zk wk rd hq
        rcases hx with hx | hx
        . exact .inl ⟨xs, hx, hl.trans r'.length⟩
        . exact .inr ⟨xs, hx, hl.trans r'.length⟩
      cases d with
      | str x =>
        obtain ⟨rfl, hx⟩ := Zd rd
        simp only [lenOf, Option.some.injEq] at hn
        exact ⟨by simpa [Str.length] using hx, by rw [<- hn]; simp [Str.length]⟩
      | _ =>
        simp only [lenOf] at hn
        first
          | (simp [Zb] at hn; done)
          | (cases q : Zb μ _ with
             | none => rw [q] at hn; cases hn
             | some ds => rw [q] at hn; simp only [Option.map_some, Option.some.injEq] at hn; exact seq q hn.symm)
    . obtain ⟨a, kvs, rfl, e, q⟩ := len_dict wk rd hw
      obtain ⟨u, rfl, ru⟩ := r.one
      cases (show u = Value.ref a from ru)
      exact d_len I (.inl e) fun t s' I' => ⟨.int kvs.length, H, I', ⟨t, rfl⟩, f.at wk Vd q⟩
  . simp [wBlt] at hw
theorem blt_abs:CallR X (.builtin "abs") (lowA X.K (wBlt "abs")):=by
 intro pins s σ H xs us Q I r h
 rcases Xm h with ⟨d,v,θ,μ,Qd,rfl,wk,rd,hw,f⟩ | ⟨d,e,v,w,θ,μ,Qd,rfl,wk,rd,re,hw,f⟩
 ·cases d with
  | int i=>cases Yb rd; exact Yck pins s σ H _ us Q I r ⟨i,rfl,f.at wk Vd hw⟩
  | _=>simp [wBlt] at hw
 ·simp [wBlt] at hw
theorem blt_all (hc:X.calm=true):CallR X (.builtin "all") (lowA X.K (wBlt "all")):=by
 intro pins s σ H xs us Q I r h
 rcases Xm h with ⟨d,v,θ,μ,Qd,rfl,wk,rd,hw,f⟩ | ⟨d,e,v,w,θ,μ,Qd,rfl,wk,rd,re,hw,f⟩
 ·simp only [wBlt] at hw
  split at hw
  ·rename_i b hb
   cases q:Zf μ d with
   | none=>rw [q] at hb; cases hb
   | some ds =>
    rw [q] at hb
    obtain ⟨a,ys,rfl,hx,rs⟩:=Xg wk rd q
    obtain ⟨bs,rfl,eb⟩:=Zb2 rs hb
    exact Yb1 hc pins s σ H _ us Q I r ⟨a,bs,rfl,hx,f.at wk Zi (by rw [eb]; exact hw)⟩
  ·exact hw.elim
 ·simp [wBlt] at hw
theorem blt_any (hc:X.calm=true):CallR X (.builtin "any") (lowA X.K (wBlt "any")):=by
 intro pins s σ H xs us Q I r h
 rcases Xm h with ⟨d,v,θ,μ,Qd,rfl,wk,rd,hw,f⟩ | ⟨d,e,v,w,θ,μ,Qd,rfl,wk,rd,re,hw,f⟩
 ·simp only [wBlt] at hw
  split at hw
  ·rename_i b hb
   cases q:Zf μ d with
   | none=>rw [q] at hb; cases hb
   | some ds =>
    rw [q] at hb
    obtain ⟨a,ys,rfl,hx,rs⟩:=Xg wk rd q
    obtain ⟨bs,rfl,eb⟩:=anys_V rs hb
    exact Zb1 hc pins s σ H _ us Q I r ⟨a,bs,rfl,hx,f.at wk Zi (by rw [eb]; exact hw)⟩
  ·exact hw.elim
 ·simp [wBlt] at hw
theorem blt_sum (hc:X.calm=true):CallR X (.builtin "sum") (lowA X.K (wBlt "sum")):=by
 intro pins s σ H xs us Q I r h
 rcases Xm h with ⟨d,v,θ,μ,Qd,rfl,wk,rd,hw,f⟩ | ⟨d,e,v,w,θ,μ,Qd,rfl,wk,rd,re,hw,f⟩
 ·simp only [wBlt] at hw
  split at hw
  ·rename_i ns hb
   cases q:Zb μ d with
   | none=>rw [q] at hb; cases hb
   | some ds =>
    rw [q] at hb
    cases d with
    | tup es =>
     simp only [Zb,Option.some.injEq] at q
     subst q
     obtain ⟨a,ys,rfl,hx,nl,rs⟩:=Ze rd
     cases Zu rs hb
     exact Vbz hc pins s σ H _ us Q I r ⟨a,ns,rfl,.of hx,f.at wk Vd hw⟩
    | _ =>
     obtain ⟨a,ys,rfl,hx,rs⟩:=Xg (ds:=ds) wk rd (by simpa [Zf] using q)
     cases Zu rs hb
     exact Zb0 hc pins s σ H _ us Q I r ⟨a,ns,rfl,hx,f.at wk Vd hw⟩
  ·exact hw.elim
 ·simp [wBlt] at hw
theorem blt_max (hc:X.calm=true):CallR X (.builtin "max") (lowA X.K (wBlt "max")):=by
 intro pins s σ H xs us Q I r h
 rcases Xm h with ⟨d,v,θ,μ,Qd,rfl,wk,rd,hw,f⟩ | ⟨d,e,v,w,θ,μ,Qd,rfl,wk,rd,re,hw,f⟩
 ·simp only [wBlt] at hw
  split at hw
  ·rename_i n ns hb
   cases q:Zf μ d with
   | none=>rw [q] at hb; cases hb
   | some ds =>
    rw [q] at hb
    obtain ⟨a,ys,rfl,hx,rs⟩:=Xg wk rd q
    cases Zu rs hb
    exact Wb0 hc pins s σ H _ us Q I r ⟨a,n,ns,rfl,hx,f.at wk Vd hw⟩
  ·exact hw.elim
 ·cases d with
  | int i =>
   cases e with
   | int j =>
    cases Yb rd; cases Yb re
    exact Vb0 hc pins s σ H _ us Q I r ⟨i,j,rfl,f.at wk Vd hw⟩
   | _=>simp [wBlt] at hw
  | _=>simp [wBlt] at hw
theorem blt_min (hc:X.calm=true):CallR X (.builtin "min") (lowA X.K (wBlt "min")):=by
 intro pins s σ H xs us Q I r h
 rcases Xm h with ⟨d,v,θ,μ,Qd,rfl,wk,rd,hw,f⟩ | ⟨d,e,v,w,θ,μ,Qd,rfl,wk,rd,re,hw,f⟩
 ·simp only [wBlt] at hw
  split at hw
  ·rename_i n ns hb
   cases q:Zf μ d with
   | none=>rw [q] at hb; cases hb
   | some ds =>
    rw [q] at hb
    obtain ⟨a,ys,rfl,hx,rs⟩:=Xg wk rd q
    cases Zu rs hb
    exact Yb0 hc pins s σ H _ us Q I r ⟨a,n,ns,rfl,hx,f.at wk Vd hw⟩
  ·exact hw.elim
 ·cases d with
  | int i =>
   cases e with
   | int j =>
    cases Yb rd; cases Yb re
    exact Xb0 hc pins s σ H _ us Q I r ⟨i,j,rfl,f.at wk Vd hw⟩
   | _=>simp [wBlt] at hw
  | _=>simp [wBlt] at hw
theorem Zcl (hc:X.calm=true):CallR X (.type "list") (lowA X.K (wBlt "list")):=by
 intro pins s σ H xs us Q I r h
 rcases Xm h with ⟨d,v,θ,μ,Qd,rfl,wk,rd,hw,f⟩ | ⟨d,e,v,w,θ,μ,Qd,rfl,wk,rd,re,hw,f⟩
 ·simp only [wBlt] at hw
  split at hw
  ·rename_i ds hq
   obtain ⟨a,ys,rfl,hx,rs⟩:=Zk wk rd hq
   exact Z1 pins s σ H _ us Q I r ⟨a,ys,rfl,hx,fun l hl=>Wau wk f rs hw hl⟩
  ·exact (show False from hw).elim
 ·simp [wBlt] at hw
theorem Xb2:CallR X (.type "list") (lowA X.K (wBlt "mlist")):=by
 intro pins s σ H xs us Q I r h
 rcases Xm h with ⟨d,v,θ,μ,Qd,rfl,wk,rd,hw,f⟩ | ⟨d,e,v,w,θ,μ,Qd,rfl,wk,rd,re,hw,f⟩
 ·simp only [wBlt] at hw
  split at hw
  ·rename_i ds hq
   obtain ⟨a,ys,rfl,hx,rs⟩:=Zk wk rd hq
   exact Z1 pins s σ H _ us Q I r ⟨a,ys,rfl,hx,fun l hl=>W5 wk f rs hw hl⟩
  ·exact hw.elim
 ·simp [wBlt] at hw
theorem Yb2:CallR X (.type "tuple") (lowA X.K (wBlt "tuple")):=by
 intro pins s σ H xs us Q I r h
 rcases Xm h with ⟨d,v,θ,μ,Qd,rfl,wk,rd,hw,f⟩ | ⟨d,e,v,w,θ,μ,Qd,rfl,wk,rd,re,hw,f⟩
 ·simp only [wBlt] at hw
  split at hw
  ·rename_i ds hq
   cases d with
   | tup es =>
    simp only [Zb,Option.some.injEq] at hq
    subst hq
    obtain ⟨a,ys,rfl,hx,nl,rs⟩:=Ze rd
    exact Yy pins s σ H _ us Q I r ⟨a,ys,rfl,.inr ⟨.of hx,f.at wk (by unfold Rep; exact ⟨a,ys,rfl,hx,nl,rs⟩) hw⟩⟩
   | _ =>
    obtain ⟨a,ys,rfl,hx,rs⟩:=Xg (ds:=ds) wk rd (by simpa [Zf] using hq)
    exact Yy pins s σ H _ us Q I r ⟨a,ys,rfl,.inl ⟨hx,fun l hl=>X5 wk f rs hw hl⟩⟩
  ·exact hw.elim
 ·simp [wBlt] at hw
theorem Vbf:CallR X (.builtin "divmod") (lowA X.K (wBlt "divmod")):=by
 intro pins s σ H xs us Q I r h
 rcases Xm h with ⟨d,v,θ,μ,Qd,rfl,wk,rd,hw,f⟩ | ⟨d,e,v,w,θ,μ,Qd,rfl,wk,rd,re,hw,f⟩
 ·simp [wBlt] at hw
 ·cases d with
  | int i =>
   cases e with
   | int j =>
    cases Yb rd; cases Yb re
    have hw:Wa1 j/\Qd (.tup [.int (i / j),.int (i % j)]) μ:=hw
    obtain ⟨⟨h1,h2⟩,hq⟩:=hw
    obtain ⟨u,w',rfl,⟨t,rfl⟩,⟨t',rfl⟩⟩:=vals2 r
    have h3:j.natAbs < 2 ^ 500:=by omega
    have h4:j.natAbs≠0:=by omega
    have h5:=(Nat.log2_lt h4).mpr h3
    refine divmod_int (by omega) ?_ (.inl (PyProof.noPylong_of_log2 (by omega)))
    rw [Int.fdiv_eq_ediv_of_nonneg i (by omega),Int.fmod_eq_emod_of_nonneg i (by omega)]
    have hn:H s.heap.objs.size=none:=I.hok.fresh (Nat.le_refl _)
    refine ⟨.ref s.heap.objs.size,_,?_,rfl,X5 wk f (xs:=[.int (i / j),.int (i % j)]) (.cons Vd (.cons Vd .nil)) hq hn⟩
    refine I.laid (fun b o e=>Heap.get?_push_of_some _ e) (Nat.le_refl _) ⟨by simp only [List.length_cons,List.length_nil]; rw [sizeLine_eq]; decide,[.int (i / j) s.toks,.int (i % j) (s.toks + 1)],.cons ⟨_,rfl⟩ (.cons ⟨_,rfl⟩ .nil),?_⟩
    exact ⟨_,Heap.get?_push_size s.heap rfl,rfl,0,rfl,rfl⟩
   | _=>simp [wBlt] at hw
  | _=>simp [wBlt] at hw
theorem ints_map:∀ {ds:List D} {ns:List Int},We ds=some ns->ds=ns.map D.int
 | [],ns,h=>by cases h; rfl
 | .int i :: ds,ns,h=>by
  simp only [We,Option.map_eq_some_iff] at h
  obtain ⟨r,e,rfl⟩:=h
  rw [ints_map e]; rfl
theorem Zam {H:Hp} {θ:List Addr} {μ:Mem}:∀ {l:List Int} {xs:List V},Rps X.K H θ μ (l.map D.int) xs->xs=l.map V.int
 | [],xs,r=>by rw [r.nil_inv]; rfl
 | i :: l,xs,r=>by
  obtain ⟨v,vr,rfl,r1,r2⟩:=r.cons_inv
  rw [Yb r1,Zam r2]; rfl
theorem blt_int:CallR X (.type "int") (lowA X.K (wBlt "int")):=by
 intro pins s σ H xs us Q I r h
 rcases Xm h with ⟨d,v,θ,μ,Qd,rfl,wk,rd,hw,f⟩ | ⟨d,e,v,w,θ,μ,Qd,rfl,wk,rd,re,hw,f⟩
 ·simp only [wBlt] at hw
  cases d with
  | int i=>cases Yb rd; exact Yaq pins s σ H _ us Q I r (.inl ⟨i,rfl,f.at wk Vd hw⟩)
  | bl b=>cases Vf rd; exact Yaq pins s σ H _ us Q I r (.inr ⟨b,rfl,f.at wk Vd hw⟩)
  | str x =>
   obtain ⟨n,⟨hl,hn⟩,hq⟩:=hw
   obtain ⟨rfl,_⟩:=Zd rd
   obtain ⟨u,rfl,ru⟩:=vals1 r
   obtain ⟨t,rfl⟩:=ru
   exact PySem.W.KIN.call_text hn (by simpa [Str.length] using hl) ⟨.int n,H,I.tok _,⟨_,rfl⟩,f.at wk Vd hq⟩
  | _=>exact hw.elim
 ·simp [wBlt] at hw
theorem Vck {k:Nat} (hr:Room k X.A):CallR X (.builtin "repr") (lowA X.K (wBlt "repr")):=by
 intro pins s σ H xs us Q I r h
 rcases Xm h with ⟨d,v,θ,μ,Qd,rfl,wk,rd,hw,f⟩ | ⟨d,e,v,w,θ,μ,Qd,rfl,wk,rd,re,hw,f⟩
 ·obtain ⟨u,rfl,ru⟩:=vals1 r
  exact Ybn I hr wk rd ru hw f
 ·simp [wBlt] at hw
theorem pe_bltD {x:String} {as:List Expr} {ws:WA} {y:Str} {p pos:Pos} {e:Expr} {es:List Expr} (hx:x∈knownB) (ey:y=bname x) (hc:X.calm=true) (hrm:∃ k,Room k X.A) (g:Gl X y) (m:X.mg y=none) (ha:PA X (e :: es) (LA X.K ws))
  (hs:starEach (e :: es) X.env=(false,eval e X.env) :: starEach es X.env) (hpl:(backTo pos (starEach es X.env)).any (·.1)=false) :
  PE X (.Call (.Name y p) (e :: es) [] pos) (LE X.K fun ρ μ Q=>ws ρ μ fun ds μ1=>wBlt x ds μ1 Q):=by
 have wk:∀ {f:Value},PE X (.Call (.Name y p) (e :: es) [] pos) (tCB (lowA X.K (wBlt x)) (LA X.K ws))->PE X (.Call (.Name y p) (e :: es) [] pos) (LE X.K fun ρ μ Q=>ws ρ μ fun ds μ1=>wBlt x ds μ1 Q):=fun h=>PE.wk h fun σ H Q z=>le_args z
 subst ey
 simp only [knownB,List.mem_cons,List.not_mem_nil,or_false] at hx
 rcases hx with rfl | rfl | rfl | rfl | rfl | rfl | rfl | rfl | rfl | rfl | rfl | rfl | rfl
 ·exact wk (f:=.none) (Vg blt_len g m (by decide +kernel) ha (by decide +kernel) (by decide +kernel) hs hpl)
 ·exact wk (f:=.none) (Vg blt_abs g m (by decide +kernel) ha (by decide +kernel) (by decide +kernel) hs hpl)
 ·exact wk (f:=.none) (Vg (blt_all hc) g m (by decide +kernel) ha (by decide +kernel) (by decide +kernel) hs hpl)
 ·exact wk (f:=.none) (Vg (blt_sum hc) g m (by decide +kernel) ha (by decide +kernel) (by decide +kernel) hs hpl)
 ·exact wk (f:=.none) (Vg (blt_max hc) g m (by decide +kernel) ha (by decide +kernel) (by decide +kernel) hs hpl)
 ·exact wk (f:=.none) (Vg (blt_min hc) g m (by decide +kernel) ha (by decide +kernel) (by decide +kernel) hs hpl)
 ·exact wk (f:=.none) (Zo (Zcl hc) g m (by decide +kernel) ha (by decide +kernel) (by decide +kernel) hs hpl)
 ·exact wk (f:=.none) (Zo Xb2 g m (by decide +kernel) ha (by decide +kernel) (by decide +kernel) hs hpl)
 ·exact wk (f:=.none) (Zo Yb2 g m (by decide +kernel) ha (by decide +kernel) (by decide +kernel) hs hpl)
 ·exact wk (f:=.none) (Vg Vbf g m (by decide +kernel) ha (by decide +kernel) (by decide +kernel) hs hpl)
 ·exact wk (f:=.none) (Zo blt_int g m (by decide +kernel) ha (by decide +kernel) (by decide +kernel) hs hpl)
 ·obtain ⟨k,hr⟩:=hrm; exact wk (f:=.none) (Vg (Vck hr) g m (by decide +kernel) ha (by decide +kernel) (by decide +kernel) hs hpl)
 ·exact wk (f:=.none) (Vg (blt_any hc) g m (by decide +kernel) ha (by decide +kernel) (by decide +kernel) hs hpl)
end
end DW
end
section
namespace L2
open PySem PySem.Spec PyProof.Rows
theorem Zn {env:Env}:∀ (names:List (Str×NameKind)) (acc:List (Str×Addr)),(∀ y∈names,y.2 = .free->∃ c,env.cells.lookup y.1=some c) ->
  (∀ y c,acc.lookup y=some c->env.cells.lookup y=some c) ->
  ∃ cl:List (Str×Addr),(forIn names acc fun (x:Str×NameKind) (r:List (Str×Addr))=>match x with
   | (name,kind)=>if (kind == .free)=true then (do let c <- cellOf env name; pure (ForInStep.yield ((name,c) :: r))) else pure (ForInStep.yield r))=(pure cl:Sem (List (Str×Addr))) /\
   (∀ y c,cl.lookup y=some c->env.cells.lookup y=some c)/\(∀ y,(acc.lookup y).isSome=true->(cl.lookup y).isSome=true)/\∀ y∈names,y.2 = .free->(cl.lookup y.1).isSome=true
 | [],acc,_,h2=>⟨acc,by simp,h2,fun _ h=>h,fun y hy=>nomatch hy⟩
 | (n,k) :: r,acc,h1,h2=>by
  by_cases hk:k = .free
  ·subst hk
   obtain ⟨c,hc⟩:=h1 (n,.free) List.mem_cons_self rfl
   obtain ⟨cl,e1,e2,e3,e4⟩:=Zn r ((n,c) :: acc) (fun y hy=>h1 y (List.mem_cons_of_mem _ hy)) (fun y d hy=>by
    rw [List.lookup_cons] at hy
    split at hy
    ·rename_i hb
     rw [eq_of_beq hb]; cases hy; exact hc
    ·exact h2 y d hy)
   refine ⟨cl,?_,e2,fun y hy=>e3 y ?_,fun y hy hf=>?_⟩
   ·rw [List.forIn_cons]
    simp only [beq_self_eq_true,if_true]
    have:cellOf env n=pure c:=by unfold cellOf; rw [hc]
    rw [this,pure_bind,pure_bind]
    exact e1
   ·rw [List.lookup_cons]; split <;> simp_all
   ·rcases List.mem_cons.mp hy with rfl | hy
    ·exact e3 n (by simp [List.lookup_cons])
    ·exact e4 y hy hf
  ·obtain ⟨cl,e1,e2,e3,e4⟩:=Zn r acc (fun y hy=>h1 y (List.mem_cons_of_mem _ hy)) h2
   refine ⟨cl,?_,e2,e3,fun y hy hf=>?_⟩
   ·rw [List.forIn_cons]
    have hb:(k == NameKind.free)=false:=by simpa using hk
    simp only [hb,Bool.false_eq_true,if_false]
    rw [pure_bind]
    exact e1
   ·rcases List.mem_cons.mp hy with rfl | hy
    ·exact absurd hf hk
    ·exact e4 y hy hf
theorem X8 {scope:Scope} {env:Env} (h:∀ y∈scope.names,y.2 = .free->∃ c,env.cells.lookup y.1=some c) :
  ∃ cl,closureFor scope env=pure cl/\(∀ y c,cl.lookup y=some c->env.cells.lookup y=some c)/\∀ y∈scope.names,y.2 = .free->(cl.lookup y.1).isSome=true:=by
 obtain ⟨cl,e1,e2,_,e4⟩:=Zn scope.names [] h (fun y c hy=>by simp at hy)
 refine ⟨cl,?_,e2,e4⟩
 unfold closureFor
 simp only [bind_pure]
 exact e1
noncomputable def Vx (X:Cx) (Nc:List Str) (scope:Scope) (cl:List (Str×Addr)) (C:Addr) (s:Shared) (H:Hp) (ex:List Addr):Cx :=
 { X with N:=Nc,s₀:=s,H₀:=H,env:=compEnvC scope cl C X.env,outer:=X.stack,ex:=ex,fn:=fun y=>scope.names.lookup y == some .cell,pn:=[],xe:=fun _ _=>False }
noncomputable def PIf (X:Cx) (ifs:List Expr) (t:TT):Prop :=
 ∀ (pins:List (Addr×Obj)) (s:Shared) (σ:St) (H:Hp) (Q:Bool->Hp->Prop),Inv X pins σ H s->t σ H Q ->
  wpAny (model X.prog X.w) X.A (forIn ifs true fun c r=>if r=true then do let ok <- isTrue c X.env (eval c X.env); pure (ForInStep.yield ok) else pure (ForInStep.yield r)) (TP X pins σ Q) X.xe s
theorem pif_nil {X:Cx}:PIf X [] (fun σ H Q=>Q true H):=fun pins s σ H Q I h=>by
 rw [List.forIn_nil]; exact wpAny_pure ⟨H,I,h⟩
theorem pif_one {X:Cx} {c:Expr} {t:TT} (hc:PT X c t):PIf X [c] t:=fun pins s σ H Q I h=>by
 rw [List.forIn_cons]
 simp only [if_true]
 refine wpAny_bind (wpAny_bind (thn (hc pins s σ H Q I h) fun b s1 q=>wpAny_pure ?_))
 show wpAny _ _ (forIn ([]:List Expr) b _) _ _ _
 rw [List.forIn_nil]; exact wpAny_pure q
noncomputable def capS (cap:List Nat) (σ:St):St:=cap.map fun i=>(σ[i]?).join
noncomputable def tComp (n:Nat) (gt:TG) (cap:List Nat) (wi:TI) (tt:TT) (te:TE):TE:=fun σ H Q=>wi σ H fun J H1=>∃ W:Nat->Nat->List V->St->Hp->Prop,(∃ m,W 0 m [] (List.replicate n none ++ capS cap σ) H1)/\∀ i m vs σc H,W i m vs σc H ->
 (vs.length<=sizeLine/\J.stop i H/\∀ p,H p=none->Q (.ref p) (upd H p (.lst vs))) ∨
 (J.go i H/\vs.length < sizeLine/\∀ x H',J.yld i H x H'->gt x σc H' fun σ2 H2=>tt σ2 H2 fun b H3 =>
  if b=true then te σ2 H3 fun v H4=>∃ m',m' < m/\W (i + 1) m' (vs ++ [v]) σ2 H4 else ∃ m',m' < m/\W (i + 1) m' vs σ2 H3)
structure CompTxt (X:Cx) (xs:List Str) (scope:Scope) (Nc:List Str) (cap:List Nat):Prop where
 kind:scope.kind = .function
 cells:∀ y∈scope.names,y.2 = .cell->scope.names.lookup y.1=some .cell
 names:∀ y∈scope.names,y.2 = .local->scope.names.lookup y.1=some .local
 nd:Nc.Nodup
 caps:∀ (j:Nat) (y:Str),Nc[xs.length + j]? = some y->∃ i,cap[j]? = some i/\X.N[i]? = some y/\scope.names.lookup y=some .free
 len:Nc.length=xs.length + cap.length
 free:∀ y∈scope.names,y.2 = .free->X.env.kindOf y.1=some .cell∨X.env.kindOf y.1=some .free
theorem relabel_free {env:Env}:∀ {names:List (Str×NameKind)} {x:Str},names.lookup x=some .free ->
  (names.map fun (n,k)=>if (k == NameKind.free && env.scope.kind == .function && env.kindOf n == some .cell) then (n,NameKind.cell) else (n,k)).lookup x=some .free ∨
  (names.map fun (n,k)=>if (k == NameKind.free && env.scope.kind == .function && env.kindOf n == some .cell) then (n,NameKind.cell) else (n,k)).lookup x=some .cell
 | [],_,h=>by simp at h
 | (n,k) :: r,x,h=>by
  have ih:=@relabel_free env r x
  show List.lookup x ((if (k == NameKind.free && env.scope.kind == .function && env.kindOf n == some .cell)=true then (n,NameKind.cell) else (n,k)) :: _)=_∨List.lookup x ((if (k == NameKind.free && env.scope.kind == .function && env.kindOf n == some .cell)=true then (n,NameKind.cell) else (n,k)) :: _)=_
  by_cases hc:(k == NameKind.free && env.scope.kind == .function && env.kindOf n == some .cell)=true
  ·rw [if_pos hc]
   cases hx:x == n with
   | true=>right; simp only [List.lookup_cons,hx]
   | false =>
    simp only [List.lookup_cons,hx] at h ⊢
    exact ih h
  ·rw [if_neg hc]
   cases hx:x == n with
   | true =>
    simp only [List.lookup_cons,hx] at h ⊢
    exact .inl h
   | false =>
    simp only [List.lookup_cons,hx] at h ⊢
    exact ih h
theorem relabel_glob' {env:Env}:∀ {names:List (Str×NameKind)} {x:Str},names.lookup x=some .globalImplicit ->
  (names.map fun (n,k)=>if (k == NameKind.free && env.scope.kind == .function && env.kindOf n == some .cell) then (n,NameKind.cell) else (n,k)).lookup x=some .globalImplicit
 | [],_,h=>by simp at h
 | (n,k) :: r,x,h=>by
  have ih:=@relabel_glob' env r x
  show List.lookup x ((if (k == NameKind.free && env.scope.kind == .function && env.kindOf n == some .cell)=true then (n,NameKind.cell) else (n,k)) :: _)=_
  by_cases hc:(k == NameKind.free && env.scope.kind == .function && env.kindOf n == some .cell)=true
  ·rw [if_pos hc]
   cases hx:x == n with
   | true =>
    simp only [List.lookup_cons,hx] at h
    have:k = .free:=by
     rw [Bool.and_eq_true,Bool.and_eq_true] at hc
     simpa using hc.1.1
    rw [this] at h; cases h
   | false =>
    simp only [List.lookup_cons,hx] at h ⊢
    exact ih h
  ·rw [if_neg hc]
   cases hx:x == n with
   | true =>
    simp only [List.lookup_cons,hx] at h ⊢
    exact h
   | false =>
    simp only [List.lookup_cons,hx] at h ⊢
    exact ih h
theorem Yam {scope:Scope} {env:Env} {x:Str} (h:scope.names.lookup x=some .globalImplicit):(relabel scope env).names.lookup x=some .globalImplicit:=relabel_glob' h
theorem relabel_cell {env:Env}:∀ {names:List (Str×NameKind)} {x:Str},names.lookup x=some .cell ->
  (names.map fun (n,k)=>if (k == NameKind.free && env.scope.kind == .function && env.kindOf n == some .cell) then (n,NameKind.cell) else (n,k)).lookup x=some .cell
 | [],_,h=>by simp at h
 | (n,k) :: r,x,h=>by
  have ih:=@relabel_cell env r x
  show List.lookup x ((if (k == NameKind.free && env.scope.kind == .function && env.kindOf n == some .cell)=true then (n,NameKind.cell) else (n,k)) :: _)=_
  by_cases hc:(k == NameKind.free && env.scope.kind == .function && env.kindOf n == some .cell)=true
  ·rw [if_pos hc]
   cases hx:x == n with
   | true=>simp only [List.lookup_cons,hx]
   | false =>
    simp only [List.lookup_cons,hx] at h ⊢
    exact ih h
  ·rw [if_neg hc]
   cases hx:x == n with
   | true =>
    simp only [List.lookup_cons,hx] at h ⊢
    exact h
   | false =>
    simp only [List.lookup_cons,hx] at h ⊢
    exact ih h
theorem Wl:∀ (names:List (Str×NameKind)) (n:Nat) (acc:List (Str×Addr)),cellsFrom n names acc=cellsFrom n names [] ++ acc
 | [],n,acc=>rfl
 | (x,k) :: r,n,acc=>by
  unfold cellsFrom
  split
  ·rw [Wl r (n + 1) ((x,n) :: acc),Wl r (n + 1) [(x,n)]]; simp
  ·exact Wl r n acc
theorem W8:∀ (names:List (Str×NameKind)) (n:Nat) (y:Str) (c:Addr),(y,c)∈cellsFrom n names []->(y,NameKind.cell)∈names
 | [],n,y,c,h=>by simp [cellsFrom] at h
 | (x,k) :: r,n,y,c,h=>by
  unfold cellsFrom at h
  split at h
  ·rename_i hk
   rw [Wl] at h
   rcases List.mem_append.mp h with z | z
   ·exact List.mem_cons_of_mem _ (W8 r _ y c z)
   ·simp only [List.mem_cons,List.not_mem_nil,or_false,Prod.mk.injEq] at z
    obtain ⟨rfl,_⟩:=z
    rw [eq_of_beq hk]; exact List.mem_cons_self
  ·exact List.mem_cons_of_mem _ (W8 r _ y c h)
theorem Zy:∀ (names:List (Str×NameKind)) (n:Nat) (y:Str),(y,NameKind.cell)∈names->((cellsFrom n names []).lookup y).isSome=true
 | [],n,y,h=>by simp at h
 | (x,k) :: r,n,y,h=>by
  unfold cellsFrom
  rcases List.mem_cons.mp h with z | z
  ·cases z
   rw [if_pos (by rfl),Wl,List.lookup_append]
   cases q:(cellsFrom (n + 1) r []).lookup x with
   | some c=>rfl
   | none=>simp [List.lookup_cons]
  ·split
   ·rw [Wl,List.lookup_append]
    have:=Zy r (n + 1) y z
    obtain ⟨c,e⟩:=Option.isSome_iff_exists.mp this
    rw [e]; rfl
   ·exact Zy r n y z
theorem Vau {M:Model} {A:Around} {E:Value->Shared->Prop} {s:Shared} {scope:Scope} {globals:Addr} {cl:List (Str×Addr)} {qual:Str} {env:Env} {Q:Env->Shared->Prop}
  (hQ:Q (newEnv scope s.heap.objs.size globals (cellsFrom (s.heap.objs.size + 1) scope.names cl) qual none .none (some env) builtinsNs) { s with heap:=pushCells (s.heap.push { cls:=.type "dict",data:=.dict #[] }) scope.names }) :
  wpAny M A (newFunctionEnv scope globals cl [] qual none .none (some env)) Q E s:=by
 simp only [newFunctionEnv,Option.isSome_some,if_true]
 refine wpAny_bind (wpAny_alloc ?_)
 refine wpAny_bind (wpAny_layCells _ (fun name kind cells=>by cases hkc:kind == NameKind.cell <;> simp [hkc]) _ _ _ _ ?_)
 rw [show ({ s with heap:=s.heap.push { cls:=.type "dict",data:=.dict #[] } }:Shared).heap.objs.size=s.heap.objs.size + 1 from Heap.size_push ..]
 rw [List.forIn_nil]
 exact wpAny_bind (wpAny_pure (wpAny_pure hQ))
theorem relabel_lookup {env:Env}:∀ {names:List (Str×NameKind)} {x:Str} {k:NameKind},
  (names.map fun (n,k)=>if (k == NameKind.free && env.scope.kind == .function && env.kindOf n == some .cell) then (n,NameKind.cell) else (n,k)).lookup x=some k ->
  names.lookup x=some k∨(k = .cell/\names.lookup x=some .free)
 | [],_,_,h=>by simp at h
 | (n,k0) :: r,x,k,h=>by
  have ih:=@relabel_lookup env r x k
  have h':List.lookup x ((if (k0 == NameKind.free && env.scope.kind == .function && env.kindOf n == some .cell)=true then (n,NameKind.cell) else (n,k0)) :: (r.map fun (n,k)=>if (k == NameKind.free && env.scope.kind == .function && env.kindOf n == some .cell) then (n,NameKind.cell) else (n,k)))=some k:=h
  by_cases hc:(k0 == NameKind.free && env.scope.kind == .function && env.kindOf n == some .cell)=true
  ·rw [if_pos hc] at h'
   cases hx:x == n with
   | true =>
    simp only [List.lookup_cons,hx] at h' ⊢
    cases h'
    have:k0 = .free:=by
     rw [Bool.and_eq_true,Bool.and_eq_true] at hc
     simpa using hc.1.1
    exact .inr ⟨rfl,by rw [this]⟩
   | false =>
    simp only [List.lookup_cons,hx] at h' ⊢
    exact ih h'
  ·rw [if_neg hc] at h'
   cases hx:x == n with
   | true =>
    simp only [List.lookup_cons,hx] at h' ⊢
    exact .inl h'
   | false =>
    simp only [List.lookup_cons,hx] at h' ⊢
    exact ih h'
end L2
namespace L2
open PySem PySem.Spec PyProof.Rows
section
variable {X:Cx} {elt iter tg:Expr} {xs:List Str} {gt:TG} {ifs:List Expr} {scope:Scope} {pos:Pos} {Nc:List Str} {cap:List Nat} {tt:TT} {te:TE} {cl:List (Str×Addr)}
 {pins:List (Addr×Obj)} {s2:Shared} {σ:St} {H2:Hp} {it:Addr} {fp:List Addr} {tn:Nat->Heap->Prop} {J:It}
noncomputable abbrev listAt (h:Heap) (D:Addr) (vs:List V):Prop:=∃ (its:List Value) (n:Nat),Vals vs its/\h.get? D=some { cls:=.type "list",data:=.seq its.toArray n }
theorem Xbf {prog:Program} {w:World} {A:Around} {R:Result->Shared->Prop} {s:Shared} {elt tg iter:Expr} {ifs:List Expr} {scope:Scope} {pos:Pos} {it acc:Value} {env:Env} (J:Nat->Shared->Prop)
  (turn:∀ m s0,J m s0->wpAny (model prog w) A (pyNext it) (fun r s1=>match r with
   | none=>R (.ok .next) s1
   | some v=>wpAny (model prog w) A (letOwnedTupleGo tg it v) (fun _ s2=>wpAny (model prog w) A (assign tg env v) (fun _ s3 =>
     wpAny (model prog w) A (forIn ifs true fun c r=>if r=true then do let ok <- isTrue c env (eval c env); pure (ForInStep.yield ok) else pure (ForInStep.yield r)) (fun b s4 =>
      if b=true then wpAny (model prog w) A (eval elt env) (fun x s5 =>
       wpAny (model prog w) A (call (.builtin "list.append") [acc,x]) (fun _ s6=>∃ k,k < m/\J k s6) (notedBy (model prog w) A env fun e z=>R (.error e) z) s5) (notedBy (model prog w) A env fun e z=>R (.error e) z) s4
      else ∃ k,k < m/\J k s4) (notedBy (model prog w) A env fun e z=>R (.error e) z) s3) (notedBy (model prog w) A env fun e z=>R (.error e) z) s2) (notedBy (model prog w) A env fun e z=>R (.error e) z) s1) (notedBy (model prog w) A env fun e z=>R (.error e) z) s0)
  (m:Nat) (h:J m s):codeAny (model prog w) A (.compLoop (.ListComp elt [⟨tg,iter,ifs,0⟩] scope pos) 0 it acc env) R s:=by
 refine codeAny_loop rfl J ?_ m h
 intro m s0 h0
 have q:=turn m s0 h0
 show wpAny _ A (Sem.onRaise (compTurn (.ListComp elt [⟨tg,iter,ifs,0⟩] scope pos) 0 it acc env) _) _ _ s0
 apply wpAny_noted
 rw [compTurn_list]
 apply wpAny_bind
 apply wpAny_standAt
 refine wpAny_bind (thn q ?_)
 rintro (_ | v) s1 q
 ·exact wpAny_pure q
 refine wpAny_bind (thn q ?_)
 intro _ s2 q
 refine wpAny_bind (thn q ?_)
 intro _ s3 q
 refine wpAny_bind (thn q ?_)
 rintro (_ | _) s4 q
 ·exact wpAny_pure ⟨rfl,q⟩
 refine wpAny_bind (wpAny_bind (thn q ?_))
 intro x s5 q
 refine wpAny_bind (thn q ?_)
 intro _ s6 q
 exact wpAny_pure (wpAny_pure ⟨rfl,q⟩)
theorem Ybf (T:CompTxt X xs scope Nc cap) {h₁:Heap} {o:Obj} (hcl:∀ y c,cl.lookup y=some c->(scope.names.lookup y≠some .cell/\X.env.cells.lookup y=some c)∨(scope.names.lookup y=some .cell/\(s2.heap.push o).objs.size < c/\h₁.IsCell c none)) (hcl1:∀ y z c,cl.lookup y=some c->cl.lookup z=some c->y=z) (hcl2:∀ y∈scope.names,(y.2 = .free∨y.2 = .cell)->(cl.lookup y.1).isSome=true)
  (I2:Inv X pins σ H2 s2) (st2:tn 0 s2.heap) (Tn:Turn X.calm X.prog X.w X.K tg J fp it tn) (f2:∀ b∈fp,FpOk X pins H2 b) {m:Str->Option Value} {tk:Nat}
  (ho:∀ v,o.data≠.cell v)
  (hns:h₁.Ns (s2.heap.push o).objs.size m) (old:∀ b ob,(s2.heap.push o).get? b=some ob->h₁.get? b=some ob) :
  Inv (Vx X Nc scope cl (s2.heap.push o).objs.size { s2 with heap:=s2.heap.push o } H2 (s2.heap.objs.size :: fp)) [] (List.replicate xs.length none ++ capS cap σ) H2 { s2 with heap:=h₁,toks:=tk }:=by
 have hC:(s2.heap.push o).objs.size=s2.heap.objs.size + 1:=Heap.size_push ..
 have old2:∀ b ob,s2.heap.get? b=some ob->h₁.get? b=some ob:=fun b ob e=>old b ob (Heap.get?_push_of_some _ e)
 have hfr:∀ b,s2.heap.objs.size<=b->H2 b=none:=fun b hb=>I2.hok.fresh hb
 have cellLt:∀ y c,X.env.cells.lookup y=some c->c < s2.heap.objs.size:=fun y c e=>let ⟨v,q⟩:=I2.cell y c e; q.lt
 have fpLt:∀ b∈fp,b < s2.heap.objs.size:=fun b hb=>let ⟨ob,e,_⟩:=Tn.obj 0 s2.heap st2 b hb; Heap.lt_size e
 have kinds:∀ y,((compEnvC scope cl (s2.heap.push o).objs.size X.env).kindOf y=some .cell∨(compEnvC scope cl (s2.heap.push o).objs.size X.env).kindOf y=some .free)->scope.names.lookup y=some .free∨scope.names.lookup y=some .cell:=fun y hy=>by
  rcases hy with hy | hy
  ·rcases relabel_lookup (env:=X.env) (show (scope.names.map _).lookup y=some .cell from hy) with z | ⟨_,z⟩
   ·exact .inr z
   ·exact .inl z
  ·rcases relabel_lookup (env:=X.env) (show (scope.names.map _).lookup y=some .free from hy) with z | ⟨z,_⟩
   ·exact .inl z
   ·cases z
 refine ⟨⟨I2.ok.mod,T.kind,I2.ok.glob,I2.ok.blt,Nat.le_refl _,hcl1,fun y hy=>?_,fun y c h h2=>?cab,I2.ok.hd,I2.ok.frames,.inl rfl,fun b hb=>?_,fun b ob e=>?_,?_,fun b ob e hb=>?_,fun b hb hf=>?_,?_,fun b hb=>I2.stkFree b hb⟩,
  rfl,I2.bare,Un.kept old,⟨m,hns,fun i y v h1 h2 h3=>?_⟩,fun y c h=>?_,hfr _ (by show s2.heap.objs.size<=(s2.heap.push o).objs.size; omega),fun y c h=>?freeC,fun p hp=>absurd (show p∈([]:List (Addr×Obj)) from hp) (by simp),I2.hok.kept old2,?_,I2.hh⟩
 case cab =>
  have h:scope.names.lookup y=some .cell:=eq_of_beq h
  rcases hcl y c h2 with ⟨z,_⟩ | ⟨_,z,_⟩
  ·exact absurd h z
  ·exact Nat.le_of_lt z
 case freeC =>
  rcases hcl y c h with ⟨_,z⟩ | ⟨_,z,_⟩
  ·exact I2.freeC y c z
  ·exact hfr c (by omega)
 ·rcases kinds y hy with z | z
  ·exact Option.isSome_iff_exists.mp (hcl2 _ (PySem.mem_of_lookup z) (.inl rfl))
  ·exact Option.isSome_iff_exists.mp (hcl2 _ (PySem.mem_of_lookup z) (.inr rfl))
 ·refine ⟨?_,fun y c h z=>?_⟩
  ·show b≠(s2.heap.push o).objs.size
   rcases List.mem_cons.mp hb with rfl | hb
   ·exact Nat.ne_of_lt (by rw [hC]; exact Nat.lt_succ_self _)
   ·exact Nat.ne_of_lt (by rw [hC]; exact Nat.lt_succ_of_lt (fpLt b hb))
  ·rcases hcl y c h with ⟨_,w⟩ | ⟨_,w,_⟩
   ·have hc:=cellLt y c w
    subst z
    rcases List.mem_cons.mp hb with rfl | hb
    ·exact Nat.lt_irrefl _ hc
    ·exact (f2 _ hb).2.2.2.2.1 y _ w rfl
   ·subst z
    rcases List.mem_cons.mp hb with rfl | hb
    ·omega
    ·exact Nat.lt_irrefl _ (Nat.lt_trans (fpLt _ hb) (Nat.lt_trans (by rw [hC]; exact Nat.lt_succ_self _) w))
 ·have:=I2.bs b ob e
  exact ⟨Heap.get?_push_of_some _ this.1,this.2⟩
 ·show X.base.objs.size<=(s2.heap.push o).objs.size
  have:=Nat.le_trans I2.ok.bsz I2.sz
  omega
 ·have h1:=(I2.bs b ob e).1
  rcases List.mem_cons.mp hb with rfl | hb
  ·exact Nat.lt_irrefl _ (Heap.lt_size h1)
  ·rcases (f2 b hb).2.2.2.1 with z | z
   ·exact I2.ok.noex b ob e z
   ·have h3:b < X.base.objs.size:=Heap.lt_size e
    have h4:=I2.ok.bsz
    exact absurd (Nat.lt_of_lt_of_le h3 (Nat.le_trans h4 z)) (Nat.lt_irrefl _)
 ·show False
  rcases List.mem_cons.mp hb with rfl | hb
  ·obtain ⟨_,ob,e,_⟩:=I2.stack.mem hf
   exact Nat.lt_irrefl _ (Heap.lt_size e)
  ·rcases List.mem_cons.mp (I2.stkSub b hf) with z | z
   ·exact (f2 b hb).2.1 z
   ·exact (f2 b hb).2.2.1 z
 ·exact (I2.stack:s2.heap.FunFrames X.base X.stack).of_keeps (fun b ob e _=>⟨ob,Heap.get?_push_of_some _ e,rfl⟩)
 ·by_cases hix:i < xs.length
  ·rw [List.getElem?_append_left (by simpa using hix),List.getElem?_replicate] at h2
   split at h2 <;> cases h2
  ·obtain ⟨j,rfl⟩:∃ j,i=xs.length + j:=⟨i - xs.length,by omega⟩
   obtain ⟨i',e1,e2,e3⟩:=T.caps j y h1
   have hv:σ[i']? = some (some v):=by
    have h2':(capS cap σ)[j]? = some (some v):=by
     rw [List.getElem?_append_right (by simp)] at h2
     simpa using h2
    unfold capS at h2'
    rw [List.getElem?_map,e1] at h2'
    simp only [Option.map_some,Option.some.injEq] at h2'
    cases q:σ[i']? with
    | none=>rw [q] at h2'; cases h2'
    | some w'=>rw [q] at h2'; simp only [Option.join_some] at h2'; rw [h2']
   obtain ⟨mo,hno,hlo⟩:=I2.loc
   have hk:=T.free _ (PySem.mem_of_lookup e3) rfl
   have vis:Vis X.env.scope y:=by rcases hk with k | k; exact .inr (.inl k); exact .inr (.inr k)
   obtain ⟨u,r,l⟩:=hlo i' y v e2 hv vis
   refine ⟨u,r,.inr ⟨?_,?_⟩⟩
   ·exact (relabel_free (env:=X.env) e3).symm
   ·rcases l with ⟨k,_⟩ | ⟨_,c,e,z⟩
    ·rcases hk with k' | k' <;> (rw [k] at k'; cases k')
    ·obtain ⟨c',ec⟩:=Option.isSome_iff_exists.mp (hcl2 _ (PySem.mem_of_lookup e3) (.inl rfl))
     have ew:X.env.cells.lookup y=some c':=by
      rcases hcl y c' ec with ⟨_,w⟩ | ⟨w,_⟩
      ·exact w
      ·rw [e3] at w; cases w
     have e':some c=some c':=e.symm.trans ew
     cases e'
     obtain ⟨oc,q1,q2⟩:=z
     exact ⟨c,ec,oc,old2 _ _ q1,q2⟩
 ·rcases hcl y c h with ⟨_,w⟩ | ⟨_,_,w⟩
  ·obtain ⟨v,oc,q1,q2⟩:=I2.cell y c w
   exact ⟨v,oc,old2 _ _ q1,q2⟩
  ·exact ⟨none,w⟩
 ·show (List.replicate xs.length none ++ capS cap σ).length=Nc.length
  rw [T.len]
  simp [capS]
theorem comp_back (I2:Inv X pins σ H2 s2) (f2:∀ b∈fp,FpOk X pins H2 b) {o:Obj} {σ':St} {H:Hp} {s':Shared} {pins':List (Addr×Obj)} {vs:List V} {h':Heap}
  (I:Inv (Vx X Nc scope cl (s2.heap.push o).objs.size { s2 with heap:=s2.heap.push o } H2 (s2.heap.objs.size :: fp)) pins' σ' H s') (hD:H s2.heap.objs.size=none) (hz:vs.length<=sizeLine) (hl:listAt s'.heap s2.heap.objs.size vs)
  (hs:Heap.SameBut (s2.heap.push o).objs.size s'.heap h'):Inv X pins σ (upd H s2.heap.objs.size (.lst vs)) { s' with heap:=h' }:=by
 have hC:(s2.heap.push o).objs.size=s2.heap.objs.size + 1:=Heap.size_push ..
 have hk:∀ b ob,b≠(s2.heap.push o).objs.size->s'.heap.get? b=some ob->h'.get? b=some ob:=fun b ob hb e=>(hs.2 b hb).trans e
 have B:Un (frs X.stack) (s2.heap.objs.size :: fp) H2 H (s2.heap.push o) s'.heap:=I.base
 have low:∀ b ob,s2.heap.get? b=some ob->b≠s2.heap.objs.size/\b≠(s2.heap.push o).objs.size:=fun b ob e=>by
  have:=Heap.lt_size e
  exact ⟨Nat.ne_of_lt this,Nat.ne_of_lt (by rw [hC]; exact Nat.lt_succ_of_lt this)⟩
 have nin:∀ b ob,s2.heap.get? b=some ob->b ∉ fp->b ∉ s2.heap.objs.size :: fp:=fun b ob e h z=>(List.mem_cons.mp z).elim (low b ob e).1 h
 refine I2.call' (ch:=fp) I.os ⟨fun b ob e n hf he=>?_,fun b ob e n hf he=>?_,fun b ob e n he=>?_,fun b ob e he=>?_,fun b xs e=>?_,fun b ob u e=>?_,fun b ps e=>?_⟩ ?_ I.bare fun b hb=>⟨(f2 b hb).2.2.2.1,(f2 b hb).2.1,(f2 b hb).2.2.2.2.1,(f2 b hb).2.2.2.2.2⟩
 ·exact hk b ob (low b ob e).2 (B.keep b ob (Heap.get?_push_of_some _ e) n hf (nin b ob e he))
 ·obtain ⟨sl,q⟩:=B.slot b ob (Heap.get?_push_of_some _ e) n hf (nin b ob e he)
  exact ⟨sl,hk b _ (low b ob e).2 q⟩
 ·rw [Va (low b ob e).1]
  exact B.free b ob (Heap.get?_push_of_some _ e) n (nin b ob e he)
 ·obtain ⟨o',q⟩:=B.there b ob (Heap.get?_push_of_some _ e) (nin b ob e he)
  exact ⟨o',hk b _ (low b ob e).2 q⟩
 ·have q:=B.tups b xs e
  rw [Va (Wb q hD)]; exact q
 ·have q:=B.frzs b ob u e
  rw [Va (Wb q hD)]; exact q
 ·obtain ⟨more,q⟩:=B.tbls b ps e
  exact ⟨more,by rw [Va (Wb q hD)]; exact q⟩
 ·intro b ob e
  have hCn:H (s2.heap.push o).objs.size=none:=I.free
  by_cases hb:b=s2.heap.objs.size
  ·subst hb
   rw [Xb] at e
   cases e
   obtain ⟨its,n,r,q⟩:=hl
   exact ⟨hz,its,n,r,hk _ _ (Nat.ne_of_lt (by rw [hC]; exact Nat.lt_succ_self _)) q⟩
  ·rw [Va hb] at e
   refine (I.hok b ob e).stay (fun c u hc q=>hk c u ?_ q) (fun c q=>?_) fun c xs q=>?_
   ·rintro rfl
    rcases hc with rfl | hc
    ·rw [hCn] at e; cases e
    ·rw [hCn] at hc; cases hc
   ·rw [Va (Wb q hD)]; exact q
   ·rw [Va (Wb q hD)]; exact q
theorem Wa7 (T:CompTxt X xs scope Nc cap) (hcl:∀ y c,cl.lookup y=some c->X.env.cells.lookup y=some c) (hcl2:∀ y∈scope.names,y.2 = .free->(cl.lookup y.1).isSome=true)
  (I2:Inv X pins σ H2 s2) (st2:tn 0 s2.heap) (Tn:Turn X.calm X.prog X.w X.K tg J fp it tn) (f2:∀ b∈fp,FpOk X pins H2 b)
  (hG:∀ cl C s H ex,PG (Vx X Nc scope cl C s H ex) tg gt) (hT:∀ cl C s H ex,PIf (Vx X Nc scope cl C s H ex) ifs tt) (hE:∀ cl C s H ex,PE (Vx X Nc scope cl C s H ex) elt te)
  (W:Nat->Nat->List V->St->Hp->Prop) {m0:Nat} (w0:W 0 m0 [] (List.replicate xs.length none ++ capS cap σ) H2) {Fn:List V->Hp->Prop}
  (turn:∀ i m vs σc H,W i m vs σc H->(vs.length<=sizeLine/\J.stop i H/\Fn vs H) ∨
   (J.go i H/\vs.length < sizeLine/\∀ x H',J.yld i H x H'->gt x σc H' fun σ2 H2=>tt σ2 H2 fun b H3 =>
    if b=true then te σ2 H3 fun v H4=>∃ m',m' < m/\W (i + 1) m' (vs ++ [v]) σ2 H4 else ∃ m',m' < m/\W (i + 1) m' vs σ2 H3))
  {E:Value->Shared->Prop} {RR:Value->Addr->Result->Shared->Prop}
  (fin:∀ (C:Addr) (vs:List V) (H:Hp) (s':Shared) (m:Str->Option Value),s2.heap.objs.size < C->H C=none->s'.heap.Ns C m->H s2.heap.objs.size=none->Fn vs H ->
   (∀ h',Heap.SameBut C s'.heap h'->Inv X pins σ (upd H s2.heap.objs.size (.lst vs)) { s' with heap:=h' })->RR (.ref s2.heap.objs.size) C (.ok .next) s') :
  wpAny (model X.prog X.w) X.A (newList []) (fun acc s₃=>wpAny (model X.prog X.w) X.A (newFunctionEnv scope X.env.globals cl [] X.env.qual none .none (some X.env)) (fun cenv s₄ =>
   codeAny (model X.prog X.w) X.A (.compStart (.ListComp elt [⟨tg,iter,ifs,0⟩] scope pos) 0 (.ref it) acc { cenv with scope:=relabel scope X.env }) (RR acc cenv.locals) s₄) E s₃) E s2:=by
 refine wpAny_newObj_type (Vau ?_)
 generalize hcf:cellsFrom ((s2.heap.push { cls:=.type "list",dict:=none,data:=.seq ([]:List Value).toArray }).objs.size + 1) scope.names cl=cf
 generalize hh₁:pushCells ((s2.heap.push { cls:=.type "list",dict:=none,data:=.seq ([]:List Value).toArray }).push { cls:=.type "dict",data:=.dict #[] }) scope.names=h₁
 have hns₁:h₁.Ns (s2.heap.push { cls:=.type "list",dict:=none,data:=.seq ([]:List Value).toArray }).objs.size (fun _=>none):=by
  rw [<- hh₁]; exact (Heap.Ns.new _ (.type "dict")).keeps (pushCells_keeps _ _)
 have hsz:(s2.heap.push { cls:=.type "list",dict:=none,data:=.seq ([]:List Value).toArray }).objs.size=s2.heap.objs.size + 1:=Heap.size_push ..
 have oldC:∀ b ob,(s2.heap.push { cls:=.type "list",dict:=none,data:=.seq ([]:List Value).toArray }).get? b=some ob->h₁.get? b=some ob:=fun b ob e=>by
  rw [<- hh₁]; exact pushCells_keeps _ _ b ob (Heap.get?_push_of_some _ e)
 have e2s:((s2.heap.push { cls:=.type "list",dict:=none,data:=.seq ([]:List Value).toArray }).push { cls:=.type "dict",data:=.dict #[] }).objs.size=(s2.heap.push { cls:=.type "list",dict:=none,data:=.seq ([]:List Value).toArray }).objs.size + 1:=Heap.size_push ..
 have own:=cellsFrom_ok scope.names ((s2.heap.push { cls:=.type "list",dict:=none,data:=.seq ([]:List Value).toArray }).push { cls:=.type "dict",data:=.dict #[] }) ((s2.heap.push { cls:=.type "list",dict:=none,data:=.seq ([]:List Value).toArray }).objs.size + 1) [] ⟨fun _ _ hm=>(nomatch hm),List.Pairwise.nil⟩ (by rw [e2s]; exact Nat.le_refl _)
 rw [e2s,hh₁] at own
 rw [Wl] at hcf
 generalize how:cellsFrom ((s2.heap.push { cls:=.type "list",dict:=none,data:=.seq ([]:List Value).toArray }).objs.size + 1) scope.names []=ow at own hcf
 have lk:∀ y c,cf.lookup y=some c->(scope.names.lookup y≠some .cell/\cl.lookup y=some c)∨(ow.lookup y=some c):=fun y c h=>by
  rw [<- hcf,List.lookup_append] at h
  cases q:ow.lookup y with
  | some c'=>rw [q] at h; exact .inr h
  | none =>
   rw [q] at h
   refine .inl ⟨fun z=>?_,h⟩
   have:=Zy scope.names ((s2.heap.push { cls:=.type "list",dict:=none,data:=.seq ([]:List Value).toArray }).objs.size + 1) y (PySem.mem_of_lookup z)
   rw [how,q] at this
   cases this
 have owC:∀ y c,ow.lookup y=some c->scope.names.lookup y=some .cell/\(s2.heap.push { cls:=.type "list",dict:=none,data:=.seq ([]:List Value).toArray }).objs.size < c/\h₁.IsCell c none:=fun y c h=>by
  have hm:=PySem.mem_of_lookup h
  have h2:=W8 scope.names _ y c (by rw [how]; exact hm)
  exact ⟨T.cells _ h2 rfl,(own.empty y c hm).2,(own.empty y c hm).1⟩
 have cellLt:∀ y c,X.env.cells.lookup y=some c->c < s2.heap.objs.size:=fun y c e=>let ⟨v,q⟩:=I2.cell y c e; q.lt
 have hcl:∀ y c,cf.lookup y=some c->(scope.names.lookup y≠some .cell/\X.env.cells.lookup y=some c)∨(scope.names.lookup y=some .cell/\(s2.heap.push { cls:=.type "list",dict:=none,data:=.seq ([]:List Value).toArray }).objs.size < c/\h₁.IsCell c none):=fun y c h =>
  (lk y c h).imp (fun z=>⟨z.1,hcl y c z.2⟩) (owC y c)
 have hcl1:∀ y z c,cf.lookup y=some c->cf.lookup z=some c->y=z:=fun y z c h1 h2=>by
  rcases lk y c h1 with ⟨a1,a2⟩ | a <;> rcases lk z c h2 with ⟨b1,b2⟩ | b
  ·rcases hcl y c h1 with ⟨_,w1⟩ | ⟨w1,_⟩
   ·rcases hcl z c h2 with ⟨_,w2⟩ | ⟨w2,_⟩
    ·exact I2.ok.inj y z c w1 w2
    ·exact absurd w2 b1
   ·exact absurd w1 a1
  ·rcases hcl y c h1 with ⟨_,w1⟩ | ⟨w1,_⟩
   ·exact (Nat.lt_irrefl _ (Nat.lt_trans (cellLt y c w1) (Nat.lt_trans (by rw [hsz]; exact Nat.lt_succ_self _) (owC z c b).2.1))).elim
   ·exact absurd w1 a1
  ·rcases hcl z c h2 with ⟨_,w1⟩ | ⟨w1,_⟩
   ·exact (Nat.lt_irrefl _ (Nat.lt_trans (cellLt z c w1) (Nat.lt_trans (by rw [hsz]; exact Nat.lt_succ_self _) (owC y c a).2.1))).elim
   ·exact absurd w1 b1
  ·exact PySem.name_of_addr own.apart (PySem.mem_of_lookup a) (PySem.mem_of_lookup b)
 have hcl2:∀ y∈scope.names,(y.2 = .free∨y.2 = .cell)->(cf.lookup y.1).isSome=true:=fun y hy hk=>by
  rw [<- hcf,List.lookup_append]
  rcases hk with hk | hk
  ·obtain ⟨c,e⟩:=Option.isSome_iff_exists.mp (hcl2 y hy hk)
   rw [e]
   cases ow.lookup y.1 <;> rfl
  ·have:=Zy scope.names ((s2.heap.push { cls:=.type "list",dict:=none,data:=.seq ([]:List Value).toArray }).objs.size + 1) y.1 (by rw [<- hk]; exact hy)
   rw [how] at this
   obtain ⟨c,e⟩:=Option.isSome_iff_exists.mp this
   rw [e]; rfl
 clear lk owC own how hcf
 dsimp only at hns₁ ⊢
 have I0:=Ybf (o:={ cls:=.type "list",dict:=none,data:=.seq ([]:List Value).toArray }) (tk:=s2.toks) T hcl hcl1 hcl2 I2 st2 Tn f2 (by intro v z; cases z) hns₁ oldC
 have st1:tn 0 h₁:=Tn.keep 0 _ _ st2 fun b _ ob e=>oldC b ob (Heap.get?_push_of_some _ e)
 have hD0:listAt h₁ s2.heap.objs.size []:=⟨[],0,.nil,oldC _ _ (Heap.get?_push_size _ rfl)⟩
 have fpF:∀ {H:Hp} {pn:List (Addr×Obj)},(∀ b∈fp,H b=none)->(∀ p∈pn,p.1 ∉ fp)->∀ b∈fp,FpOk (Vx X Nc scope cf (s2.heap.push { cls:=.type "list",dict:=none,data:=.seq ([]:List Value).toArray }).objs.size { s2 with heap:=s2.heap.push { cls:=.type "list",dict:=none,data:=.seq ([]:List Value).toArray } } H2 (s2.heap.objs.size :: fp)) pn H b:=fun {H pn} hn hp b hb=>by
  have hlt:b < s2.heap.objs.size:=let ⟨ob,e,_⟩:=Tn.obj 0 s2.heap st2 b hb; Heap.lt_size e
  refine ⟨hn b hb,?_,fun z=>?_,.inl (List.mem_cons_of_mem _ hb),fun y c h=>?_,fun p hpp=>?_⟩
  ·exact Nat.ne_of_lt (by show b < (s2.heap.push _).objs.size; rw [hsz]; exact Nat.lt_succ_of_lt hlt)
  ·rcases List.mem_cons.mp (I2.stkSub b z) with z | z
   ·exact (f2 b hb).2.1 z
   ·exact (f2 b hb).2.2.1 z
  ·rcases hcl y c h with ⟨_,w⟩ | ⟨_,w,_⟩
   ·exact (f2 b hb).2.2.2.2.1 y c w
   ·exact Nat.ne_of_gt (Nat.lt_trans hlt (by omega))
  ·rcases List.mem_append.mp hpp with q | q
   ·exact absurd (show p∈([]:List (Addr×Obj)) from q) (by simp)
   ·exact fun z=>hp p q (z ▸ hb)
 have loop:codeAny (model X.prog X.w) X.A (.compLoop (.ListComp elt [⟨tg,iter,ifs,0⟩] scope pos) 0 (.ref it) (.ref s2.heap.objs.size) (compEnvC scope cf (s2.heap.push { cls:=.type "list",dict:=none,data:=.seq ([]:List Value).toArray }).objs.size X.env))
   (RR (.ref s2.heap.objs.size) (s2.heap.push { cls:=.type "list",dict:=none,data:=.seq ([]:List Value).toArray }).objs.size) { s2 with heap:=h₁,toks:=s2.toks }:=by
  generalize hX:Vx X Nc scope cf (s2.heap.push { cls:=.type "list",dict:=none,data:=.seq ([]:List Value).toArray }).objs.size { s2 with heap:=s2.heap.push { cls:=.type "list",dict:=none,data:=.seq ([]:List Value).toArray } } H2 (s2.heap.objs.size :: fp)=X' at I0 fpF
  have eP:X'.prog=X.prog:=by rw [<- hX]; rfl
  have ew:X'.w=X.w:=by rw [<- hX]; rfl
  have eK:X'.K=X.K:=by rw [<- hX]; rfl
  have eA:X'.A=X.A:=by rw [<- hX]; rfl
  have ec:X'.calm=X.calm:=by rw [<- hX]; rfl
  have eN:X'.N=Nc:=by rw [<- hX]; rfl
  have ee:X'.env=compEnvC scope cf (s2.heap.push { cls:=.type "list",dict:=none,data:=.seq ([]:List Value).toArray }).objs.size X.env:=by rw [<- hX]; rfl
  have ex:X'.xe=fun _ _=>False:=by rw [<- hX]; rfl
  have eX:X'.ex=s2.heap.objs.size :: fp:=by rw [<- hX]; rfl
  have hT':PIf X' ifs tt:=by rw [<- hX]; exact hT _ _ _ _ _
  have hE':PE X' elt te:=by rw [<- hX]; exact hE _ _ _ _ _
  have hG':PG X' tg gt:=by rw [<- hX]; exact hG _ _ _ _ _
  have back:∀ {σ':St} {H:Hp} {s':Shared} {pins':List (Addr×Obj)} {vs:List V} {h':Heap},Inv X' pins' σ' H s'->H s2.heap.objs.size=none->vs.length<=sizeLine->listAt s'.heap s2.heap.objs.size vs ->
    Heap.SameBut (s2.heap.push { cls:=.type "list",dict:=none,data:=.seq ([]:List Value).toArray }).objs.size s'.heap h'->Inv X pins σ (upd H s2.heap.objs.size (.lst vs)) { s' with heap:=h' }:=by
   intro σ' H s' pins' vs h' I
   rw [<- hX] at I
   exact comp_back I2 f2 I
  have Dex:s2.heap.objs.size∈X'.ex∨X'.s₀.heap.objs.size<=s2.heap.objs.size:=.inl (by rw [eX]; exact List.mem_cons_self)
  have DnL:s2.heap.objs.size≠X'.env.locals:=by rw [ee]; exact Nat.ne_of_lt (by show _ < (s2.heap.push _).objs.size; rw [hsz]; exact Nat.lt_succ_self _)
  have DnC:∀ y c,X'.env.cells.lookup y=some c->c≠s2.heap.objs.size:=fun y c h=>by
   rw [ee] at h
   rcases hcl y c h with ⟨_,w⟩ | ⟨_,w,_⟩
   ·exact Nat.ne_of_lt (cellLt y c w)
   ·exact Nat.ne_of_gt (by omega)
  have DnF:s2.heap.objs.size ∉ X'.fs:=fun z=>by
   rw [<- hX] at z
   obtain ⟨_,ob,e,_⟩:=I2.stack.mem (show s2.heap.objs.size∈frs X.stack from z)
   exact Nat.lt_irrefl _ (Heap.lt_size e)
  have Dfp:s2.heap.objs.size ∉ fp:=fun hb=>by
   obtain ⟨ob,e,_⟩:=Tn.obj 0 s2.heap st2 _ hb
   exact Nat.lt_irrefl _ (Heap.lt_size e)
  have pn0:X'.pn=[]:=by rw [<- hX]; rfl
  rw [<- ee]
  refine Xbf (fun n s=>∃ i vs H σ0,Inv X' [] σ0 H s/\tn i s.heap/\(∀ b∈fp,H b=none)/\H s2.heap.objs.size=none/\listAt s.heap s2.heap.objs.size vs/\W i n vs σ0 H) ?_ m0
   ⟨0,[],H2,_,I0,st1,fun b hb=>(f2 b hb).1,I2.hok.fresh (Nat.le_refl _),hD0,w0⟩
  rintro n s ⟨i,vs,H,σ0,I,st,hf,hDn,⟨its,k,rv,eD⟩,w1⟩
  have pinned:Inv X' [(s2.heap.objs.size,({ cls:=.type "list",data:=.seq its.toArray k }:Obj))] σ0 H s:=I.pins_of fun p hp=>by
   obtain rfl:=List.mem_singleton.mp hp
   exact ⟨eD,hDn,DnL,DnF,fun v z=>by cases z⟩
  have fpp:∀ p∈[(s2.heap.objs.size,({ cls:=.type "list",data:=.seq its.toArray k }:Obj))],p.1 ∉ fp:=fun p hp=>by
   obtain rfl:=List.mem_singleton.mp hp
   exact Dfp
  rcases turn i n vs σ0 H w1 with ⟨hz,stop,fn⟩ | ⟨go,hz,step⟩
  ·have dn:=Tn.done X' eP ew eK ec i _ s _ H (notedBy (model X.prog X.w) X.A X'.env fun e s'=>RR (.ref s2.heap.objs.size) (s2.heap.push { cls:=.type "list",dict:=none,data:=.seq ([]:List Value).toArray }).objs.size (.error e) s') pinned (fpF hf fpp) st stop
   rw [eA] at dn
   refine thn dn fun r s1 ⟨hr,J1⟩=>?_
   subst hr
   have pD:=J1.pin (s2.heap.objs.size,({ cls:=.type "list",data:=.seq its.toArray k }:Obj)) (by rw [pn0]; simp)
   obtain ⟨mC,hnC,_⟩:=J1.loc
   rw [ee] at hnC
   have fC:=J1.free
   rw [ee] at fC
   refine fin _ vs H s1 mC (by rw [hsz]; exact Nat.lt_succ_self _) fC hnC hDn fn fun h' hs=>back J1 hDn hz ⟨its,k,rv,pD.1⟩ hs
  ·have im:=Tn.item X' eP ew eK ec i _ s _ H (notedBy (model X.prog X.w) X.A X'.env fun e s'=>RR (.ref s2.heap.objs.size) (s2.heap.push { cls:=.type "list",dict:=none,data:=.seq ([]:List Value).toArray }).objs.size (.error e) s') pinned (fpF hf fpp) st go
   rw [eA] at im
   refine thn im fun r s1 ⟨u,hr,h1⟩=>?_
   subst hr
   dsimp only
   refine thn h1 fun _ s3 ⟨y,H3,I3,r3,y3,st3,fr3⟩=>?_
   have I3':=I3.pinned (fpF fr3 fpp) (Tn.obj _ _ st3)
   have g:=hG' _ s3 _ H3 y u _ I3' r3 (step y H3 y3)
   rw [eP,ew,eA,ex] at g
   refine wpAny_mono g (fun _ s4 ⟨σ4,H4,I4,q4⟩=>?_) fun _ _ z=>z.elim
   have t:=hT' _ s4 _ H4 _ I4 q4
   rw [eP,ew,eA,ex] at t
   have tk':∀ {pl:List (Addr×Obj)} {σ':St} {H':Hp} {s':Shared},Inv X' (pl ++ Xam fp s3.heap) σ' H' s'->tn (i + 1) s'.heap/\∀ b∈fp,H' b=none:=fun {pl σ' H' s'} J=>by
    refine ⟨Tn.keep _ _ _ st3 fun b hb o e=>(J.pin (b,o) (List.mem_append_right _ (List.mem_append_right _ (Wr hb e)))).1,fun b hb=>?_⟩
    obtain ⟨o,e,d⟩:=Tn.obj _ _ st3 b hb
    exact (J.pin (b,o) (List.mem_append_right _ (List.mem_append_right _ (Wr hb e)))).2.1
   refine wpAny_mono t (fun b s5 ⟨H5,I5,q5⟩=>?_) fun _ _ z=>z.elim
   cases b with
   | false =>
    rw [if_neg Bool.false_ne_true] at q5 ⊢
    obtain ⟨m',hm,w5⟩:=q5
    obtain ⟨st5,fr5⟩:=tk' I5
    have pD:=I5.pin (s2.heap.objs.size,({ cls:=.type "list",data:=.seq its.toArray k }:Obj)) (by simp)
    exact ⟨m',hm,i + 1,vs,H5,σ4,I5.pins_of (fun p hp=>nomatch hp),st5,fr5,pD.2.1,⟨its,k,rv,pD.1⟩,w5⟩
   | true =>
    rw [if_pos rfl] at q5 ⊢
    have ev:=hE' _ s5 _ H5 _ I5 q5
    rw [eP,ew,eA,ex] at ev
    refine wpAny_mono ev (fun z s6 ⟨v,H6,I6,r6,q6⟩=>?_) fun _ _ z=>z.elim
    obtain ⟨m',hm,w6⟩:=q6
    obtain ⟨st6,fr6⟩:=tk' I6
    have pD:=I6.pin (s2.heap.objs.size,({ cls:=.type "list",data:=.seq its.toArray k }:Obj)) (by simp)
    have hlen:=rv.length
    refine call_meets F.slot_list_append ⟨_,pD.1,rfl⟩ F.entry_list_append (F.args_list_append_2 _ _) (PySem.list_append s2.heap.objs.size its.toArray k z (by rw [List.size_toArray]; omega)) ⟨pD.1,?_⟩
    have q:=PySem.IsL.update pD.1 (fun a=>a.push z)
    dsimp only at q
    rw [show its.toArray.push z=(its ++ [z]).toArray by simp] at q
    have kk:∀ b o,b≠s2.heap.objs.size->s6.heap.get? b=some o->(s6.heap.update s2.heap.objs.size (Obj.mapSeq fun a=>a.push z)).get? b=some o:=fun b o hb e=>(Heap.get?_update_other s6.heap _ (Ne.symm hb)).trans e
    have I7:Inv X' [] σ4 H6 { s6 with heap:=s6.heap.update s2.heap.objs.size (Obj.mapSeq fun a=>a.push z),toks:=s6.toks }:=(I6.pins_of (pins':=[]) (fun p hp=>nomatch hp)).turned kk pD.2.1 DnL Dex DnC (fun p hp=>by
     rw [pn0] at hp; exact absurd hp (by simp))
    refine ⟨m',hm,i + 1,vs ++ [v],H6,σ4,I7,Tn.keep _ _ _ st6 (fun b hb o e=>kk b o (fun zz=>Dfp (zz ▸ hb)) e),fr6,pD.2.1,⟨its ++ [z],_,rv.append (.cons r6 .nil),q⟩,w6⟩
 exact codeAny_compStart_list loop (Tn.self _ 0 _ _ _ st1 loop)
end
end L2
namespace L2
open PySem PySem.Spec PyProof.Rows
section
variable {X:Cx} {elt iter tg:Expr} {xs:List Str} {gt:TG} {ifs:List Expr} {scope:Scope} {pos:Pos} {Nc:List Str} {cap:List Nat} {tt:TT} {te:TE} {wi:TI}
theorem Wap {pins:List (Addr×Obj)} {s:Shared} {σ:St} {H:Hp} (T:CompTxt X xs scope Nc cap) (I:Inv X pins σ H s):∃ cl,closureFor scope X.env=pure cl/\(∀ y c,cl.lookup y=some c->X.env.cells.lookup y=some c)/\∀ y∈scope.names,y.2 = .free->(cl.lookup y.1).isSome=true :=
 X8 fun y hy hf=>I.ok.has y.1 (T.free y hy hf)
theorem pe_comp (T:CompTxt X xs scope Nc cap) (hi:PI X tg iter wi) (hG:∀ cl C s H ex,PG (Vx X Nc scope cl C s H ex) tg gt) (hT:∀ cl C s H ex,PIf (Vx X Nc scope cl C s H ex) ifs tt) (hE:∀ cl C s H ex,PE (Vx X Nc scope cl C s H ex) elt te)
  (hs:∀ v,foldedSetIterable iter X.env v=pure v):PE X (.ListComp elt [⟨tg,iter,ifs,0⟩] scope pos) (tComp xs.length gt cap wi tt te):=by
 intro pins s σ H Q I h
 rw [eval_ListComp]
 obtain ⟨cl,e1,e2,e3⟩:=Wap T I
 refine wpAny_comprehension_free (use:=none) rfl hs e1 T.kind T.names (thn (hi pins s σ H _ I h) fun v s1 h1=>thn h1 fun itv s2 h2=>?_)
 obtain ⟨it,fp,tn,J,H2,rfl,I2,Tn,st2,f2,W,⟨m0,w0⟩,turn⟩:=h2
 refine Wa7 (RR:=fun acc C=>compPost (model X.prog X.w) X.A X.xe none (EP X pins σ Q) acc C) T e2 e3 I2 st2 Tn f2 hG hT hE W w0 turn fun C vs H' s' m hC hHC hn hD fn back=>?_
 exact ⟨m,hn,fun h' hs'=>⟨.ref _,_,back h' hs',rfl,fn _ hD⟩⟩
theorem Ybb {i:Nat} {t:Str} {pt pos2:Pos} (T:CompTxt X xs scope Nc cap) (hi:PI X tg iter wi) (hG:∀ cl C s H ex,PG (Vx X Nc scope cl C s H ex) tg gt) (hT:∀ cl C s H ex,PIf (Vx X Nc scope cl C s H ex) ifs tt) (hE:∀ cl C s H ex,PE (Vx X Nc scope cl C s H ex) elt te)
  (hs:∀ v,foldedSetIterable iter X.env v=pure v) (hN:X.N.Nodup) (hti:X.N[i]? = some t) (htl:X.env.scope.names.lookup t=some .local)
  (hsw:swapsWith (.ListComp elt [⟨tg,iter,ifs,0⟩] scope pos) (some (.Name t pt)) pos2.line X.env=pure true) :
  PS X (.Assign [.Name t pt] (.ListComp elt [⟨tg,iter,ifs,0⟩] scope pos) pos2) (tAsg (tComp xs.length gt cap wi tt te) (Wbu i)):=by
 intro pins s σ H D I h
 rw [exec_Assign_Name_used _ _ _ _ hsw]
 obtain ⟨cl,e1,e2,e3⟩:=Wap T I
 refine wpAny_bind (wpAny_standAt (wpAny_bind ?_))
 show wpAny _ X.A (do let _ <- comprehension (.ListComp elt [⟨tg,iter,ifs,0⟩] scope pos) scope X.env _ (newList []) false (eval iter X.env) (some (assign (.Name t pt) X.env))) _ _ s
 refine wpAny_bind (wpAny_mono (wpAny_comprehension_free (use:=some (assign (.Name t pt) X.env)) (Q:=fun _ s'=>SP X pins D .next s') rfl hs e1 T.kind T.names
  (thn (hi pins s σ H _ I h) fun v s1 h1=>thn h1 fun itv s2 h2=>?_)) (fun _ s' q=>wpAny_pure (wpAny_pure q)) fun _ _ e=>e)
 obtain ⟨it,fp,tn,J,H2,rfl,I2,Tn,st2,f2,W,⟨m0,w0⟩,turn⟩:=h2
 refine Wa7 (RR:=fun acc C=>compPost (model X.prog X.w) X.A X.xe (some (assign (.Name t pt) X.env)) (fun _ s'=>SP X pins D .next s') acc C) T e2 e3 I2 st2 Tn f2 hG hT hE W w0 turn fun C vs H' s' m hC hHC hn hD fn back=>?_
 have I3:Inv X pins σ (upd H' s2.heap.objs.size (.lst vs)) s':=back s'.heap (.refl ..)
 have hLC:X.env.locals≠C:=Nat.ne_of_lt (Nat.lt_trans I2.lt hC)
 have hDC:C≠s2.heap.objs.size:=Nat.ne_of_gt hC
 show wpAny _ X.A (assign (.Name t pt) X.env (.ref s2.heap.objs.size)) _ _ s'
 refine wpAny_assign_Name (Yal I3 hN hti (.inl htl) (v:=.ref s2.heap.objs.size) rfl (fun s4 I4 ⟨a,sb,ha⟩=>?_) (.inr htl))
 have hCa:C≠a:=by
  rcases ha with rfl | ha
  ·exact Ne.symm hLC
  ·obtain ⟨v,q⟩:=I2.cell t a ha
   exact Nat.ne_of_gt (Nat.lt_trans q.lt hC)
 refine ⟨m,hn.sameBut sb hCa,fun h' sb'=>⟨_,_,I4.turned (t':=s4.toks) (it:=C) (fun b o hb e=>(sb'.2 b hb).trans e) (by rw [Va hDC]; exact hHC) (Ne.symm hLC) (.inr ?_) (fun y c e=>?_) (fun p hp=>?_),fn _ hD⟩⟩
 ·exact Nat.le_trans I2.sz (Nat.le_of_lt hC)
 ·obtain ⟨v,q⟩:=I2.cell y c e
  exact Nat.ne_of_lt (Nat.lt_trans q.lt hC)
 ·exact Nat.ne_of_lt (Nat.lt_trans (Heap.lt_size (I2.pin p hp).1) hC)
end
end L2
end
section
namespace DW
open PySem PySem.Spec PyProof.Rows L2
noncomputable def Zas (K:PySem.W.Frag) (J:L2.It) (ds:List D) (g:Mem->Prop) (H0:Hp) (θ0:List Addr) (μ0:Mem):Prop :=
 ds.length<=sizeLine/\∀ (i:Nat) (H:Hp) (θ:List Addr) (μ:Mem),WOk K H θ μ->Grow H0 θ0 μ0 H θ μ->g μ ->
  (i < ds.length->J.go i H/\∀ x H',J.yld i H x H'->WOk K H' θ μ/\Grow H θ μ H' θ μ/\∃ d,ds[i]? = some d/\Rp K H' θ μ d x)/\(i=ds.length->J.stop i H)
noncomputable abbrev WI:=Rho->Mem->QI->Prop
noncomputable def LI (K:PySem.W.Frag) (w:WI):TI:=fun σ H R=>∃ ρ θ μ Qi,Sim K σ H ρ θ μ/\w ρ μ Qi /\
 ∀ ds g (J:L2.It) H' θ' μ',WOk K H' θ' μ'->Grow H θ μ H' θ' μ'->Zas K J ds g H' θ' μ'->Qi ds g μ'->R J H'
section
variable {K:PySem.W.Frag} {H:Hp} {θ:List Addr} {μ:Mem} {ds:List D} {a:Addr} {xs:List V}
theorem Y4 (hl:ds.length<=sizeLine) (g:Mem->Prop) (h:∀ (H':Hp) (θ':List Addr) (μ':Mem),WOk K H' θ' μ'->Grow H θ μ H' θ' μ'->g μ'->∃ xs,SqL K H' a xs/\Rps K H' θ' μ' ds xs):Zas K (Itl K a) ds g H θ μ:=by
 refine ⟨hl,fun i H' θ' μ' w' gr hg=>?_⟩
 obtain ⟨xs,hx,rs⟩:=h H' θ' μ' w' gr hg
 refine ⟨fun hi=>?_,fun hi=>⟨xs,hx,by rw [hi,rs.length]; exact Nat.le_refl _⟩⟩
 obtain ⟨v,e1,e2⟩:=rs.get (i:=i) (List.getElem?_eq_getElem hi)
 refine ⟨⟨xs,v,hx,e1⟩,fun x H'' y=>?_⟩
 obtain ⟨rfl,y⟩:=y
 have:=y xs hx
 rw [e1] at this; cases this
 exact ⟨w',Grow.refl,_,List.getElem?_eq_getElem hi,e2⟩
theorem Yb4 (hl:ds.length<=sizeLine) (g:Mem->Prop) (h:∀ (H':Hp) (θ':List Addr) (μ':Mem),WOk K H' θ' μ'->Grow H θ μ H' θ' μ'->g μ'->∃ xs,SqT K H' a xs/\Rps K H' θ' μ' ds xs):Zas K (Itt K a) ds g H θ μ:=by
 refine ⟨hl,fun i H' θ' μ' w' gr hg=>?_⟩
 obtain ⟨xs,hx,rs⟩:=h H' θ' μ' w' gr hg
 refine ⟨fun hi=>?_,fun hi=>⟨xs,hx,by rw [hi,rs.length]; exact Nat.le_refl _⟩⟩
 obtain ⟨v,e1,e2⟩:=rs.get (i:=i) (List.getElem?_eq_getElem hi)
 refine ⟨⟨xs,v,hx,e1⟩,fun x H'' y=>?_⟩
 obtain ⟨rfl,y⟩:=y
 have:=y xs hx
 rw [e1] at this; cases this
 exact ⟨w',Grow.refl,_,List.getElem?_eq_getElem hi,e2⟩
theorem Ya9 {lo:Int} {n:Nat} (hn:n<=sizeLine):Zas K (Itr lo n) (Zg lo n) (fun _=>True) H θ μ:=by
 refine ⟨by simpa [Zg] using hn,fun i H' θ' μ' w' gr _=>⟨fun hi=>?_,fun hi=>?_⟩⟩
 ·have hi':i < n:=by simpa [Zg] using hi
  refine ⟨hi',fun x H'' y=>?_⟩
  obtain ⟨rfl,rfl⟩:=y
  exact ⟨w',Grow.refl,.int (lo + (i:Int)),by simp [Zg,hi'],Vd⟩
 ·have hi':i=n:=by simpa [Zg] using hi
  show n<=i
  omega
end
theorem kv_get {κ:Type}:∀ {kvs:List (κ×V)} {vs:List (κ×Value)} {i:Nat} {kv:κ×V},KV kvs vs->kvs[i]? = some kv->∃ u,vs[i]? = some (kv.1,u)
 | _,_,i,_,.nil,e=>by simp at e
 | _,_,0,_,.cons r _,e=>by simp at e; subst e; exact ⟨_,by rw [List.getElem?_cons_zero,r.1]⟩
 | _,_,i + 1,kv,.cons _ t,e=>by
  obtain ⟨u,h1⟩:=kv_get (i:=i) (kv:=kv) t (by simpa using e)
  exact ⟨u,by simpa using h1⟩
theorem Vbx {X:Cx} {pins:List (Addr×Obj)} {σ:L2.St} {H:Hp} {s:Shared} {a:Addr} {o:Obj} {kvs:List (Key×V)} {es:Array DictEntry} {ep:Nat} (I:Inv X pins σ H s) (e:H a=some (.frz o (.dK kvs))) (hd:o.data = .dict es ep) :
  ∃ vs,KV kvs vs/\s.heap.DictAt (Xe X.prog X.w) a vs ep:=by
 obtain ⟨h1,_,_,vs,rel,o',es',ep',q1,q2,q3,q4⟩:=(show ObjOk X.prog X.w H s.heap a (.frz o (.dK kvs)) from I.hok a _ e)
 rw [h1] at q1; cases q1
 rw [hd] at q3; cases q3
 exact ⟨vs,rel,o,es,h1,q2,hd,q4⟩
noncomputable def Itw (a:Addr) (o:Obj) (is:List Int):L2.It :=
 ⟨fun i H=>(∃ kvs:List (Key×V),H a=some (.frz o (.dK kvs))/\kvs.map (·.1)=is.map Sum.inl)/\i < is.length,fun i H x H'=>H'=H/\∃ z,is[i]? = some z/\x = .int z,fun i H=>(∃ kvs:List (Key×V),H a=some (.frz o (.dK kvs))/\kvs.map (·.1)=is.map Sum.inl)/\is.length<=i⟩
theorem Wbj {cb:Bool} (hcb:cb=true) {P:Program} {w:World} {K:PySem.W.Frag} {tg:Expr} (a it:Addr) (o:Obj) (is:List Int) (es:Array DictEntry) (ep:Nat) (hd:o.data = .dict es ep) :
  Turn cb P w K tg (Itw a o is) [it] it (fun i h=>h.IsKeyIter it a i is.length ep) where
 mem:=by simp
 obj:=fun i h st b hb=>by
  have e:b=it:=by simpa using hb
  subst e
  obtain ⟨o,e,c,d⟩:=st
  exact ⟨o,e,fun v z=>by rw [d] at z; cases z⟩
 keep:=fun i h h' st k=>by
  obtain ⟨o,e,c,d⟩:=st
  exact ⟨o,k it (by simp) o e,c,d⟩
 item:=by
  intro X hP hw hK hc i pins s σ H E I hf st hg
  subst hP hw hK
  obtain ⟨⟨kvs,e,ek⟩,hi⟩:=hg
  have hli:kvs.length=is.length:=by simpa using congrArg List.length ek
  obtain ⟨vs,rel,dat⟩:=Vbx I e hd
  obtain ⟨f0,f1,f2,f3,f4,f5⟩:=hf it (by simp)
  have hlen:vs.length=is.length:=by rw [<- rel.length,hli]
  obtain ⟨u,hu⟩:=kv_get rel (List.getElem?_eq_getElem (hli ▸ hi:i < kvs.length))
  refine wpAny_pyNext_dict_item (hlen ▸ st) dat hu fun key h' hk st' sb=>?_
  have I1:Inv X pins σ H { s with heap:=h' }:=I.turned (t':=s.toks) (fun b o hb e=>(sb.2 b hb).trans e) f0 f1 f3 f4 f5
  obtain ⟨o',e',c,d⟩:=id st'
  refine ⟨key,rfl,Vci (s:={ s with heap:=h' }) e' c d (by decide) ⟨.int is[i],H,I1,?_,⟨rfl,is[i],List.getElem?_eq_getElem hi,rfl⟩,hlen ▸ st',fun b hb=>(hf b hb).1⟩⟩
  have ei:(kvs[i]'(hli ▸ hi)).1=Sum.inl is[i]:=by
   have h1:(kvs.map (·.1))[i]? = (is.map Sum.inl)[i]?:=by rw [ek]
   simpa [hi,(hli ▸ hi:i < kvs.length)] using h1
  have hk:Vah (Sum.inl is[i]) key=true:=by rw [<- ei]; exact hk
  rcases Yd hk with ⟨z,tt,e1,rfl⟩ | ⟨z,tt,e1,rfl⟩
  ·cases e1; exact ⟨tt,rfl⟩
  ·cases e1
 done:=by
  intro X hP hw hK hc i pins s σ H E I hf st hg
  subst hP hw hK
  obtain ⟨⟨kvs,e,ek⟩,hi⟩:=hg
  have hli:kvs.length=is.length:=by simpa using congrArg List.length ek
  obtain ⟨vs,rel,dat⟩:=Vbx I e hd
  obtain ⟨f0,f1,f2,f3,f4,f5⟩:=hf it (by simp)
  have hlen:vs.length=is.length:=by rw [<- rel.length,hli]
  exact wpAny_pyNext_dict_end (I.ok.hd (hc.trans hcb)) (hlen ▸ st) dat (List.getElem?_eq_none (by omega)) fun h' eb=>⟨rfl,I.turned (t':=s.toks) (fun b o hb e=>eb b o hb e) f0 f1 f3 f4 f5⟩
 self:=fun _ _ _ _ _ st h=>wpAny_pyIter_keyiter st h
section
variable {X:Cx} {tg:Expr}
theorem pi_seqD {l:Expr} {wl:WE} (hcl:X.calm=true) (hl:PE X l (LE X.K wl)):PI X tg l (LI X.K fun ρ μ Q=>wl ρ μ fun d μ1=>wSeq d μ1 Q):=by
 intro pins s σ H R I h
 have big:∀ (x:V) (H1:Hp) (s1:Shared),Inv X pins σ H1 s1->True:=fun _ _ _ _=>trivial
 obtain ⟨ρ,θ,μ,Qi,sm,h,f⟩:=h
 refine thn (hl pins s σ H (fun x H1=>∃ d θ1 μ1,WOk X.K H1 θ1 μ1/\Grow H θ μ H1 θ1 μ1/\Rp X.K H1 θ1 μ1 d x/\wSeq d μ1 Qi) I ⟨ρ,θ,μ,_,sm,h,fun d v H1 θ1 μ1 w1 g1 r1 h1=>⟨d,θ1,μ1,w1,g1,r1,h1⟩⟩) fun v s1 ⟨x,H1,I1,r1,d,θ1,μ1,w1,g1,rd,hq⟩=>?_
 have pe:∀ (R':L2.It->Hp->Prop),((∃ a,x = .ref a/\(∃ xs,SqL X.K H1 a xs)/\R' (Itl X.K a) H1)∨(∃ a,x = .ref a/\(∃ xs,SqT X.K H1 a xs)/\R' (Itt X.K a) H1)) ->
   wpAny (model X.prog X.w) X.A (pyIter v) (PIE X pins σ tg R') X.xe s1:=fun R' q1=>by
  rcases q1 with ⟨a,rfl,⟨xs,hq⟩,q⟩ | ⟨a,rfl,⟨xs,hq⟩,q⟩
  ·cases r1
   obtain ⟨its,rv,p,hz⟩:=I1.list hq
   refine wpAny_pyIter_list p.isList ?_
   refine ⟨s1.heap.objs.size,[s1.heap.objs.size],_,_,H1,rfl,I1.kept (t':=s1.toks) fun b o e=>Heap.get?_push_of_some _ e,Ybj hcl a _,⟨_,Heap.get?_push_size _ rfl,rfl,rfl⟩,fun b hb=>?_,q⟩
   obtain rfl:=List.mem_singleton.mp hb
   exact I1.fpOk (Nat.le_refl _) (I1.hok.fresh (Nat.le_refl _))
  ·cases r1
   obtain ⟨its,rv,p,hz⟩:=I1.tuple hq
   refine wpAny_pyIter_tuple (show s1.heap.IsTuple a its.toArray from p) ?_
   refine ⟨s1.heap.objs.size,[s1.heap.objs.size],_,_,H1,rfl,I1.kept (t':=s1.toks) fun b o e=>Heap.get?_push_of_some _ e,Zba hcl a _,⟨_,Heap.get?_push_size _ rfl,rfl,rfl⟩,fun b hb=>?_,q⟩
   obtain rfl:=List.mem_singleton.mp hb
   exact I1.fpOk (Nat.le_refl _) (I1.hok.fresh (Nat.le_refl _))
 unfold wSeq at hq
 split at hq
 ·rename_i ds
  obtain ⟨a,xs,rfl,h1,nl,rs⟩:=Yg rd
  have hz:ds.length<=sizeLine:=by obtain ⟨_,_,_,hz⟩:=I1.list (SqL.of h1); rw [rs.length]; exact hz
  exact pe R (.inl ⟨a,rfl,⟨xs,.of h1⟩,f ds _ _ H1 θ1 μ1 w1 g1 (Y4 hz _ fun H' θ' μ' w' gr _=>⟨xs,.of (gr.keep a _ h1 nl).1,gr.reps rs⟩) hq⟩)
 ·rename_i ds
  obtain ⟨a,xs,rfl,h1,nl,rs⟩:=Ze rd
  have hz:ds.length<=sizeLine:=by obtain ⟨_,_,_,hz⟩:=I1.tuple (SqT.of h1); rw [rs.length]; exact hz
  exact pe R (.inr ⟨a,rfl,⟨xs,.of h1⟩,f ds _ _ H1 θ1 μ1 w1 g1 (Yb4 hz _ fun H' θ' μ' w' gr _=>⟨xs,.of (gr.keep a _ h1 nl).1,gr.reps rs⟩) hq⟩)
 ·rename_i ds
  obtain ⟨a,xs,rfl,h1,rs⟩:=Za5 rd
  have hz:ds.length<=sizeLine:=by obtain ⟨_,_,_,hz⟩:=I1.list (Wa8 h1); rw [rs.length]; exact hz
  refine pe R (.inl ⟨a,rfl,⟨xs,Wa8 h1⟩,f ds _ _ H1 θ1 μ1 w1 g1 (Y4 hz _ fun H' θ' μ' w' gr _=>⟨xs,?_,gr.reps rs⟩) hq⟩)
  rcases h1 with ⟨o,h1,h2⟩ | h1
  ·exact .inl (.inr ⟨o,(gr.keep a _ h1 h2).1⟩)
  ·exact .inr h1
 ·rename_i n
  obtain ⟨a,rfl,ha⟩:=Xc rd
  split at hq
  ·rename_i ds hn
   obtain ⟨xs,h1,rs⟩:=w1.list hn ha
   have hz:ds.length<=sizeLine:=by obtain ⟨_,_,_,hz⟩:=I1.list (SqL.of h1); rw [rs.length]; exact hz
   refine pe R (.inl ⟨a,rfl,⟨xs,.of h1⟩,f ds _ _ H1 θ1 μ1 w1 g1 (Y4 hz _ fun H' θ' μ' w' gr hg=>?_) hq⟩)
   obtain ⟨ys,h2,rs2⟩:=w'.list hg (gr.pre n a ha)
   exact ⟨ys,.of h2,rs2⟩
  ·rename_i o ks ds hn
   obtain ⟨is,rfl,hq⟩:=hq
   cases r1
   obtain ⟨kvs,h1,h2,h3⟩:=w1.cell n _ a hn ha
   obtain ⟨q0,hz,hs,vs,rel,o',es,ep,q1,q2,q3,q4⟩:=(show ObjOk X.prog X.w H1 s1.heap a (.frz o (.dK kvs)) from I1.hok a _ h1)
   rw [q0] at q1; cases q1
   have hlen:=rel.length
   have hli:kvs.length=is.length:=by simpa using congrArg List.length h2
   have kq:∀ {kvs':List (Key×V)},kvs'.map (·.1)=(is.map Sum.inl).map keyOf->kvs'.map (·.1)=kvs.map (·.1):=fun q=>q.trans h2.symm
   refine wpAny_pyIter_dict hs (⟨o,es,q0,q2,q3,q4⟩:s1.heap.DictAt (Xe X.prog X.w) a vs ep) ?_
   refine ⟨s1.heap.objs.size,[s1.heap.objs.size],_,_,H1,rfl,I1.kept (t':=s1.toks) fun b o e=>Heap.get?_push_of_some _ e,Wbj hcl a _ o is es ep q3,⟨_,Heap.get?_push_size _ rfl,rfl,by rw [<- hlen,hli]; rfl⟩,fun b hb=>?_,f (is.map .int) _ (Itw a o is) H1 θ1 μ1 w1 g1 ⟨by simpa [<- hli] using hz,fun i H' θ' μ' w' gr hg=>?_⟩ hq⟩
   ·obtain rfl:=List.mem_singleton.mp hb
    exact I1.fpOk (Nat.le_refl _) (I1.hok.fresh (Nat.le_refl _))
   ·obtain ⟨kvs',h1',h2',h3'⟩:=w'.cell n _ a hg (gr.pre n a ha)
    refine ⟨fun hi=>⟨⟨⟨kvs',h1',by rw [h2',List.map_map]; rfl⟩,by simpa using hi⟩,fun y H'' q=>?_⟩,fun hi=>⟨⟨kvs',h1',by rw [h2',List.map_map]; rfl⟩,by simp at hi; omega⟩⟩
    obtain ⟨rfl,z,e1,rfl⟩:=q
    have hi':i < is.length:=by simpa using hi
    refine ⟨w',Grow.refl,.int z,by simp [e1],Vd⟩
  ·exact hq.elim
 ·exact hq.elim
theorem Vca {a:Expr} {ws:WA} {y:Str} {p pos:Pos} (ey:y=Str.ofString "range") (hg:Gl X y) (hm:X.mg y=none) (ha:PA X [a] (LA X.K ws)) (hs:starEach [a] X.env=[(false,eval a X.env)]) :
  PI X tg (.Call (.Name y p) [a] [] pos) (LI X.K fun ρ μ Q=>ws ρ μ fun ds μ1=>wRng 1 ds μ1 Q):=by
 subst ey
 intro pins s σ H R I h
 refine Vbn (tg:=tg) hg hm ha hs pins s σ H R I ?_
 obtain ⟨ρ,θ,μ,Qi,sm,h,f⟩:=h
 refine ⟨ρ,θ,μ,_,sm,h,fun ds vs H1 θ1 μ1 w1 g1 r1 h1=>?_⟩
 have hl:lim=16777216:=rfl
 unfold wRng at h1
 split at h1
 ·rename_i j _
  obtain ⟨v,r,rfl,r2,r3⟩:=r1.cons_inv
  cases r3.nil_inv
  cases Yb r2
  obtain ⟨k1,k2,k3⟩:=h1
  refine ⟨j,rfl,k2,by rw [hl] at k1; omega,f _ _ _ H1 θ1 μ1 w1 g1 (Ya9 ?_) k3⟩
  rw [hl] at k1; rw [sizeLine_eq]; omega
 ·exact h1.elim
noncomputable def LG (K:PySem.W.Frag) (bnd:D->Rho->(Rho->Prop)->Prop):TG:=fun v σ H Q=>∃ d ρ θ μ k,Sim K σ H ρ θ μ/\Rp K H θ μ d v/\bnd d ρ k/\∀ σ' ρ',Sim K σ' H ρ' θ μ->k ρ'->Q σ' H
theorem PG.wk {t t':TG} (h:PG X tg t) (m:∀ v σ H Q,t' v σ H Q->t v σ H Q):PG X tg t':=fun pins s σ H v u Q I r hw=>h pins s σ H v u Q I r (m v σ H Q hw)
theorem Wcb {i:Nat} {x:Str} {pos:Pos} (hN:X.N.Nodup) (hi:X.N[i]? = some x) (hx:Loc X.env.scope x) (hf:X.fn x=true∨X.env.scope.names.lookup x=some .local):PG X (.Name x pos) (LG X.K (Zq [i] false)) :=
 PG.wk (Zbo hN hi hx hf) fun v σ H Q h=>by
  obtain ⟨d,ρ,θ,μ,k,sm,rd,hb,f⟩:=h
  exact f _ _ (sm.set rd i) hb
noncomputable def Za6:List Nat->TGs
 | []=>gNil
 | i :: is=>gCons (Wbu i) (Za6 is)
theorem Zap {K:PySem.W.Frag} {H:Hp} {θ:List Addr} {μ:Mem} {Q:L2.St->Hp->Prop}:∀ (is:List Nat) (ds:List D) (vs:List V) (σ:L2.St) (ρ:Rho),Sim K σ H ρ θ μ->Rps K H θ μ ds vs->ds.length=is.length ->
  (∀ σ',Sim K σ' H ((is.zip ds).foldl (fun r p=>r.set p.1 (some p.2)) ρ) θ μ->Q σ' H)->Za6 is vs σ H Q
 | [],ds,vs,σ,ρ,sm,rs,hl,f=>by
  have:ds=[]:=by simpa using hl
  subst this
  cases rs.nil_inv
  exact ⟨rfl,f σ (by simpa using sm)⟩
 | i :: is,ds,vs,σ,ρ,sm,rs,hl,f=>by
  cases ds with
  | nil=>simp at hl
  | cons d ds =>
   obtain ⟨v,r,rfl,r1,r2⟩:=rs.cons_inv
   exact ⟨v,r,rfl,Zap is ds r (σ.set i (some v)) (ρ.set i (some d)) (sm.set r1 i) r2 (by simpa using hl) (by simpa using f)⟩
theorem pg_tupD {is:List Nat} {es:List Expr} {k:Nat} {pos:Pos} (hc:X.calm=true) (h:PGs X es (Za6 is)) (hn:(assignEach es X.env).length=is.length) (hst:(assignEach es X.env).findIdx? (·.1)=none):PG X (.Tuple es k pos) (LG X.K (Zq is true)) :=
 PG.wk (pg_tup hc h hn hst) fun v σ H Q q=>by
  obtain ⟨d,ρ,θ,μ,k,sm,rd,hb,f⟩:=q
  unfold Zq at hb
  split at hb
  ·rename_i h2; cases h2
  ·split at hb
   ·rename_i ds
    obtain ⟨a,xs,rfl,h1,_,rs⟩:=Ze rd
    exact ⟨a,xs,rfl,.of h1,by rw [<- rs.length]; exact hb.1,Zap is ds xs σ ρ sm rs hb.1 fun σ' s'=>f σ' _ s' hb.2⟩
   ·exact hb.elim
theorem ps_forD {EX:L2.St->XK} {iter:Expr} {body:List Stmt} {wi:WI} {bnd:D->Rho->(Rho->Prop)->Prop} {wb:WS} {pos:Pos} (hp:PassesOwn (model X.prog X.w) X.A X.env X.xe) (hc:X.calm=true) (hi:PI X tg iter (LI X.K wi)) (hg:PG X tg (LG X.K bnd)) (hb:PSs X body (LS X.K EX wb))
  (hs:∀ x,foldedSetIterable iter X.env x=pure x):PS X (.For tg iter body [] pos) (LS X.K EX fun Z ρ μ=>wi ρ μ fun ds g μ1=>Zak bnd wb g Z ds ρ μ1):=by
 refine PS.wk (ps_for hp hc hi hg hb hs) fun E σ H h=>?_
 obtain ⟨ρ,θ,μ,Z,sm,h,f⟩:=h
 refine ⟨ρ,θ,μ,_,sm,h,fun ds g J H1 θ1 μ1 w1 g1 wk h1=>?_⟩
 have f1:=f.mono g1
 refine ⟨fun i m σ' H'=>m=ds.length - i/\i<=ds.length/\∃ ρ' θ' μ',Sim X.K σ' H' ρ' θ' μ'/\Grow H1 θ1 μ1 H' θ' μ'/\Zak bnd wb g Z (ds.drop i) ρ' μ',⟨ds.length,by simp,Nat.zero_le _,ρ,θ1,μ1,sm.grow w1 g1,Grow.refl,by simpa using h1⟩,?_⟩
 rintro i m σ' H' ⟨rfl,hi',ρ',θ',μ',sm',gr,hl⟩
 by_cases hlt:i < ds.length
 ·right
  have e:ds.drop i=ds[i] :: ds.drop (i + 1):=List.drop_eq_getElem_cons hlt
  rw [e] at hl
  obtain ⟨hgμ,hl⟩:=hl
  obtain ⟨go,y⟩:=(wk.2 i H' θ' μ' sm'.wok gr hgμ).1 hlt
  refine ⟨go,fun σ2 H2=>∃ ρ2 θ2 μ2,Sim X.K σ2 H2 ρ2 θ2 μ2/\Grow H1 θ1 μ1 H2 θ2 μ2/\Zak bnd wb g Z (ds.drop (i + 1)) ρ2 μ2,fun σ2 H2 ⟨ρ2,θ2,μ2,s2,g2,l2⟩=>⟨ds.length - (i + 1),by omega,rfl,hlt,ρ2,θ2,μ2,s2,g2,l2⟩,fun x H'' yx=>?_⟩
  obtain ⟨w2,g2,d,ed,rd⟩:=y x H'' yx
  rw [List.getElem?_eq_getElem hlt] at ed
  cases ed
  refine ⟨ds[i],ρ',θ',μ',_,sm'.grow w2 g2,rd,hl,fun σ3 ρ3 s3 q3=>⟨ρ3,θ',μ',_,s3,q3,?_⟩⟩
  have g3:=gr.trans g2
  have f3:=f1.mono g3
  exact ⟨fun σ4 H4 ρ4 θ4 μ4 s4 g4 z4=>⟨ρ4,θ4,μ4,s4,g3.trans g4,z4⟩,f3.rt,fun σ4 H4 ρ4 θ4 μ4 s4 g4 z4=>f3.nx σ4 H4 ρ4 θ4 μ4 s4 g4 z4,fun σ4 H4 ρ4 θ4 μ4 s4 g4 z4=>⟨ρ4,θ4,μ4,s4,g3.trans g4,z4⟩,f3.xc⟩
 ·left
  have e:i=ds.length:=by omega
  subst e
  rw [List.drop_length] at hl
  obtain ⟨hgμ,hl⟩:=hl
  exact ⟨(wk.2 _ H' θ' μ' sm'.wok gr hgμ).2 rfl,f1.nx σ' H' ρ' θ' μ' sm' gr hl⟩
theorem ps_whlD {EX:L2.St->XK} {c:Expr} {body:List Stmt} {wt:WT} {wb:WS} {pos:Pos} (hp:PassesOwn (model X.prog X.w) X.A X.env X.xe) (hc:PT X c (LT X.K wt)) (hb:PSs X body (LS X.K EX wb)) :
  PS X (.While c body [] pos) (LS X.K EX fun Z ρ μ=>∃ W:Nat->Rho->Mem->Prop,(∃ m,W m ρ μ)/\∀ m ρ μ,W m ρ μ->wt ρ μ fun t μ1 =>
   if t=true then wb { Z with nx:=fun ρ' μ'=>∃ m',m' < m/\W m' ρ' μ',ct:=fun ρ' μ'=>∃ m',m' < m/\W m' ρ' μ',bk:=Z.nx } ρ μ1 else Z.nx ρ μ1):=by
 refine PS.wk (Vb9 hp hc hb) fun E σ H h=>?_
 obtain ⟨ρ,θ,μ,Z,sm,⟨W,⟨m0,w0⟩,turn⟩,f⟩:=h
 refine ⟨fun m σ' H'=>∃ ρ' θ' μ',Sim X.K σ' H' ρ' θ' μ'/\Grow H θ μ H' θ' μ'/\W m ρ' μ',⟨m0,ρ,θ,μ,sm,Grow.refl,w0⟩,?_⟩
 rintro m σ1 H1 ⟨ρ1,θ1,μ1,s1,g1,w1⟩
 refine ⟨ρ1,θ1,μ1,_,s1,turn m ρ1 μ1 w1,fun b H2 θ2 μ2 wk2 g2 q=>?_⟩
 have f2:=f.mono (g1.trans g2)
 cases b with
 | true =>
  rw [if_pos rfl] at q
  dsimp only
  rw [if_pos rfl]
  refine ⟨fun σ3 H3=>∃ ρ3 θ3 μ3 m',m' < m/\Sim X.K σ3 H3 ρ3 θ3 μ3/\Grow H θ μ H3 θ3 μ3/\W m' ρ3 μ3,fun σ3 H3 ⟨ρ3,θ3,μ3,m',hm,s3,g3,w3⟩=>⟨m',hm,ρ3,θ3,μ3,s3,g3,w3⟩,ρ1,θ2,μ2,_,s1.grow wk2 g2,q,?_⟩
  exact ⟨fun σ4 H4 ρ4 θ4 μ4 s4 g4 ⟨m',hm,w4⟩=>⟨ρ4,θ4,μ4,m',hm,s4,(g1.trans g2).trans g4,w4⟩,f2.rt,f2.nx,fun σ4 H4 ρ4 θ4 μ4 s4 g4 ⟨m',hm,w4⟩=>⟨ρ4,θ4,μ4,m',hm,s4,(g1.trans g2).trans g4,w4⟩,f2.xc⟩
 | false =>
  rw [if_neg Bool.false_ne_true] at q
  dsimp only
  rw [if_neg Bool.false_ne_true]
  exact f2.nx σ1 H2 ρ1 θ2 μ2 (s1.grow wk2 g2) Grow.refl q
theorem sim_cap {K:PySem.W.Frag} {H:Hp} {θ:List Addr} {μ:Mem} {σ:L2.St} {ρ:Rho} {cap:List Nat} (n:Nat) (sm:Sim K σ H ρ θ μ):Sim K (List.replicate n none ++ capS cap σ) H (List.replicate n none ++ cap.map fun i=>(ρ[i]?).join) θ μ:=by
 refine ⟨sm.wok,by simp [capS],fun i e h=>?_⟩
 by_cases hi:i < n
 ·rw [List.getElem?_append_left (by simpa using hi),List.getElem?_replicate] at h
  split at h <;> cases h
 ·obtain ⟨j,rfl⟩:∃ j,i=n + j:=⟨i - n,by omega⟩
  rw [List.getElem?_append_right (by simp)] at h ⊢
  simp only [List.length_replicate,Nat.add_sub_cancel_left,List.getElem?_map] at h ⊢
  cases q:cap[j]? with
  | none=>rw [q] at h; cases h
  | some k =>
   rw [q] at h
   simp only [Option.map_some,Option.some.injEq] at h
   have hj:ρ[k]? = some (some e):=by
    cases z:ρ[k]? with
    | none=>rw [z] at h; cases h
    | some w=>rw [z] at h; simp only [Option.join_some] at h; rw [h]
   obtain ⟨w,e1,e2⟩:=sm.val k e hj
   refine ⟨w,?_,e2⟩
   simp only [capS,List.getElem?_map,q,Option.map_some,e1,Option.join_some]
theorem Zae (caps:Rho):∀ (ds:List D) (pre ρs:Rho),ρs.length=ds.length->((List.range' pre.length ds.length).zip ds).foldl (fun r p=>r.set p.1 (some p.2)) (pre ++ ρs ++ caps)=pre ++ ds.map some ++ caps
 | [],pre,ρs,h=>by
  have:ρs=[]:=by simpa using h
  subst this; simp
 | d :: ds,pre,ρs,h=>by
  cases ρs with
  | nil=>simp at h
  | cons r ρs =>
   have ih:=Zae caps ds (pre ++ [some d]) ρs (by simpa using h)
   simp only [List.length_append,List.length_cons,List.length_nil,Nat.zero_add] at ih
   simp only [List.length_cons,List.range'_succ,List.zip_cons_cons,List.foldl_cons]
   have e:(pre ++ r :: ρs ++ caps).set pre.length (some d)=pre ++ [some d] ++ ρs ++ caps:=by simp
   rw [e,ih]
   simp
theorem bind_CT {n:Nat} {tt:Bool} {d:D} {ρs caps:Rho} {k:Rho->Prop} (hn:tt=false->n=1) (hl:ρs.length=n) (h:bindC n tt d caps k):Zq (List.range n) tt d (ρs ++ caps) fun ρ'=>(∃ ρt:Rho,ρt.length=n/\ρ'=ρt ++ caps)/\k ρ':=by
 cases tt with
 | false =>
  cases hn rfl
  match ρs,hl with
  | [r],_=>exact ⟨⟨[some d],rfl,rfl⟩,h⟩
 | true =>
  cases d with
  | tup ds =>
   obtain ⟨h1,h2⟩:=(show ds.length=n/\k (ds.map some ++ caps) from h)
   show ds.length=(List.range n).length/\_
   have e:=Zae caps ds [] ρs (by rw [hl,h1])
   simp only [List.length_nil,List.nil_append] at e
   rw [List.range_eq_range',<- h1,e]
   refine ⟨by simp,⟨⟨ds.map some,by simp,rfl⟩,h2⟩⟩
  | _=>exact False.elim h
theorem Zbs {m:Bool} {n:Nat} {tt:Bool} {cap:List Nat} {wi:WI} {cw:WT} {ew:WE} {σ:L2.St} {H:Hp} {Q:VK} (hn:tt=false->n=1)
  (h:LE X.K (fun ρ μ Q=>wi ρ μ fun ds g μ1=>Wy (fun d k=>bindC n tt d (cap.map fun i=>(ρ[i]?).join) k) cw ew g ds [] μ1 fun vs μ2=>newL m vs μ2 Q) σ H Q):tComp n (LG X.K fun d r k=>Zq (List.range n) tt d r k) cap (LI X.K wi) (LT X.K cw) (LE X.K ew) σ H Q:=by
 obtain ⟨ρ,θ,μ,Qd,sm,h,f⟩:=h
 refine ⟨ρ,θ,μ,_,sm,h,fun ds g J H1 θ1 μ1 w1 g1 wk h1=>?_⟩
 have f1:=f.mono g1
 have sm1:=sm.grow w1 g1
 refine ⟨fun i k vs σc H'=>k=ds.length - i/\i<=ds.length/\vs.length<=i/\∃ acc θ' μ' ρs,ρs.length=n/\Sim X.K σc H' (ρs ++ cap.map fun i=>(ρ[i]?).join) θ' μ'/\Grow H1 θ1 μ1 H' θ' μ'/\Rps X.K H' θ' μ' acc vs/\Wy (fun d k=>bindC n tt d (cap.map fun i=>(ρ[i]?).join) k) cw ew g (ds.drop i) acc μ' fun vs μ2=>newL m vs μ2 Qd,
  ⟨ds.length,by simp,Nat.zero_le _,Nat.le_refl _,[],θ1,μ1,List.replicate n none,by simp,sim_cap n sm1,Grow.refl,Reps.nil,by simpa using h1⟩,?_⟩
 rintro i k vs σc H' ⟨rfl,hi,hv,acc,θ',μ',ρs,hρ,sc,gr,rs,hl⟩
 have w':=sc.wok
 have hz:=wk.1
 by_cases hlt:i < ds.length
 ·right
  have e:ds.drop i=ds[i] :: ds.drop (i + 1):=List.drop_eq_getElem_cons hlt
  rw [e] at hl
  obtain ⟨hgμ,hl⟩:=hl
  obtain ⟨go,y⟩:=(wk.2 i H' θ' μ' w' gr hgμ).1 hlt
  refine ⟨go,by omega,fun x H'' yx=>?_⟩
  obtain ⟨w2,g2,d,ed,rd⟩:=y x H'' yx
  rw [List.getElem?_eq_getElem hlt] at ed
  cases ed
  refine ⟨ds[i],_,θ',μ',_,sc.grow w2 g2,rd,bind_CT hn hρ hl,fun σ2 ρ2 s2 q2=>?_⟩
  obtain ⟨⟨ρt,ht,rfl⟩,q2⟩:=q2
  refine ⟨_,θ',μ',_,s2,q2,fun b H3 θ3 μ3 w3 g3 q3=>?_⟩
  have g23:=g2.trans g3
  cases b with
  | true =>
   rw [if_pos rfl] at q3
   dsimp only
   rw [if_pos rfl]
   refine ⟨_,θ3,μ3,_,s2.grow w3 g3,q3,fun d4 v4 H4 θ4 μ4 w4 g4 r4 q4=>?_⟩
   have g24:=g23.trans g4
   exact ⟨ds.length - (i + 1),by omega,rfl,hlt,by simp; omega,acc ++ [d4],θ4,μ4,ρt,ht,s2.grow w4 (g3.trans g4),gr.trans g24,(g24.reps rs).append (Reps.one r4),q4⟩
  | false =>
   rw [if_neg Bool.false_ne_true] at q3
   dsimp only
   rw [if_neg Bool.false_ne_true]
   exact ⟨ds.length - (i + 1),by omega,rfl,hlt,by omega,acc,θ3,μ3,ρt,ht,s2.grow w3 g3,gr.trans g23,g23.reps rs,q3⟩
 ·left
  have e:i=ds.length:=by omega
  subst e
  rw [List.drop_length] at hl
  obtain ⟨hgμ,hl⟩:=hl
  exact ⟨by omega,(wk.2 _ H' θ' μ' w' gr hgμ).2 rfl,fun p hp=>W5 w' (f1.mono gr) rs hl hp⟩
end
end DW
end
section
set_option maxHeartbeats 2000000
namespace DW
open PySem PySem.Spec PyProof.Rows L2
section
variable {X:Cx}
theorem Yab:∀ (n lo:Nat) (us:List Value),us.length=n->(∀ (j:Nat) (v:Value),us[j]? = some v->∃ t,v = .int ((lo:Int) + (j:Int)) t)->Vals ((List.range' lo n).map fun (k:Nat)=>V.int (k:Int)) us
 | 0,lo,[],_,_=>.nil
 | 0,lo,_ :: _,h,_=>by simp at h
 | n + 1,lo,[],h,_=>by simp at h
 | n + 1,lo,u :: us,h,hv=>by
  rw [List.range'_succ,List.map_cons]
  obtain ⟨t,ht⟩:=hv 0 u rfl
  refine .cons ⟨t,by rw [ht]; simp⟩ (Yab n (lo + 1) us (by simpa using h) fun j v hj=>?_)
  obtain ⟨t,ht⟩:=hv (j + 1) v (by simpa using hj)
  exact ⟨t,by rw [ht]; congr 1; push_cast; omega⟩
theorem Yac {K:PySem.W.Frag} {H:Hp} {θ:List Addr} {L:Addr->Prop}:∀ (l:List Nat),Reps K H θ L (l.map fun (k:Nat)=>D.int (k:Int)) (l.map fun (k:Nat)=>V.int (k:Int))
 | []=>Reps.nil
 | k :: l=>by
  rw [List.map_cons,List.map_cons]
  exact Reps.cons (by unfold Rep; rfl) (Yac l)
theorem pe_lrng {m:Bool} {z:Expr} {w:WE} {y y2:Str} {p p2 pos pos2:Pos} (hc:X.calm=true) (ey:y=Str.ofString "list") (ey2:y2=Str.ofString "range") (hg:Gl X y) (hm:X.mg y=none) (hg2:Gl X y2) (hm2:X.mg y2=none) (he:PE X z (LE X.K w))
  (hs:starEach [z] X.env=[(false,eval z X.env)]) (hs2:starEach [.Call (.Name y2 p2) [z] [] pos2] X.env=[(false,eval (.Call (.Name y2 p2) [z] [] pos2) X.env)]) :
  PE X (.Call (.Name y p) [.Call (.Name y2 p2) [z] [] pos2] [] pos) (LE X.K fun ρ μ Q=>w ρ μ fun d μ1=>wInt d μ1 fun j μ2=>(-(2 ^ 62)<=j/\j<=lim)/\newL m (Zg 0 j.toNat) μ2 Q):=by
 subst ey ey2
 intro pins s σ H Q I h
 obtain ⟨ρ,θ,μ,Qd,sm,h,f⟩:=h
 refine Call_ (Vt I hg hm (show bootBuiltins (Str.ofString "list")=some (.type "list") by decide +kernel) (PyProof.Rows.callWith_type1 ?_ hs2 rfl) (by decide +kernel) (by decide +kernel))
 rw [hs2]
 refine Calls.spliced_cons ?_
 refine Call_ (Vt I hg2 hm2 boot_range (PyProof.Rows.callWith_type1 ?_ hs rfl))
 rw [hs]
 refine Calls.spliced_cons (thn (he pins s σ H (fun v H1=>∃ (θ1:List Addr) (μ1:Mem) (j:Int),v = .int j/\WOk X.K H1 θ1 μ1/\Grow H θ μ H1 θ1 μ1/\(-(2 ^ 62)<=j/\j<=lim)/\newL m (Zg 0 j.toNat) μ1 Qd) I ⟨ρ,θ,μ,_,sm,h,fun d v H1 θ1 μ1 w1 g1 r1 q=>?_⟩) fun u s1 ⟨x,H1,I1,rx,θ1,μ1,j,ex,w1,g1,⟨j1,j2⟩,q⟩=>?_)
 ·unfold wInt at q
  split at q
  ·rename_i j
   cases Yb r1
   exact ⟨θ1,μ1,j,rfl,w1,g1,q.1,q.2⟩
  ·exact q.elim
 ·subst ex
  obtain ⟨t,rfl⟩:=rx
  have hl:lim=16777216:=rfl
  rw [hl] at j2
  refine Calls.spliced_nil (call_range_1 (Calls.spliced_nil ?_))
  have I2:Inv X pins σ H1 { s1 with heap:=s1.heap.push { cls:=.type "range",data:=.fields #[.int 0 s1.toks,.int j t,.int 1 (s1.toks + 1)] },toks:=s1.toks + 1 + 1 }:=I1.kept fun b o e=>Heap.get?_push_of_some _ e
  have hn:Builtin.Range.rangeSize 0 j 1=(j.toNat:Nat):=by rw [rangeSize_one]; split <;> omega
  refine call_list_range (I2.ok.hd hc) (IsRange.new ..) (small_one (by omega) (by omega) (by omega) (by omega)) hn (by omega) fun h' tk acc' c' kp e it=>?_
  have hz:(Zg 0 j.toNat).length<=sizeLine:=by rw [sizeLine_eq]; simp [Zg]; omega
  have vs:Vals ((List.range' 0 j.toNat).map fun (k:Nat)=>V.int (k:Int)) acc'.toList:=Yab _ 0 _ (by simpa using it.1) fun i v hv=>by
   obtain ⟨t,ht⟩:=it.2 i v (by simpa using hv)
   exact ⟨t,by rw [ht]; simp⟩
  have e2:Zg 0 j.toNat=(List.range' 0 j.toNat).map fun (k:Nat)=>D.int (k:Int):=by simp [Zg,List.range_eq_range']
  refine ⟨.ref _,_,I2.laid (t':=tk) kp (Nat.le_refl _) (show ObjOk X.prog X.w _ h' _ (.lst ((List.range' 0 j.toNat).map fun (k:Nat)=>V.int (k:Int))) from ⟨by simpa [Zg] using hz,acc'.toList,c',vs,by simpa using e⟩),rfl,?_⟩
  exact W5 w1 (fun d v H2 θ2 μ2 w2 g2 r2 q2=>f d v H2 θ2 μ2 w2 (g1.trans g2) r2 q2) (by rw [e2]; exact Yac _) q (I2.hok.fresh (Nat.le_refl _))
end
end DW
end
section
set_option maxHeartbeats 2000000
namespace DW
open PySem PySem.Spec PyProof.Rows L2
section
variable {prog:Program} {w:World} {A:Around} {E:Value->Shared->Prop} {s:Shared}
end
section
variable {X:Cx}
end
end DW
end
section
namespace DW
open PySem PySem.Spec PyProof.Rows L2
section
variable {prog:Program} {w:World} {A:Around} {E:Value->Shared->Prop} {s:Shared}
end
section
variable {prog:Program} {w:World} {A:Around} {E:Value->Shared->Prop} {s:Shared}
end
end DW
end
section
set_option maxHeartbeats 2000000
namespace DW
open PySem PySem.Spec PyProof.Rows L2
theorem Yci {X:Cx} {pins:List (Addr×Obj)} {σ:L2.St} {H:Hp} {s:Shared} {h':Heap} {ch:List Addr} {p:Addr} {x y:V} {u v:Value} (I:Inv X pins σ H s) (hf:∀ b∈ch,FpOk X pins H b)
  (k:∀ b o,b ∉ ch->s.heap.get? b=some o->h'.get? b=some o) (hp:s.heap.objs.size<=p) (np:IsPair h' p u v) (ru:RelV x u) (rv:RelV y v):Inv X pins σ (upd H p (.tup [x,y])) { s with heap:=h' }:=by
 have hn:H p=none:=I.hok.fresh hp
 have up:∀ b u,H b=some u->(upd H p (.tup [x,y])) b=some u:=fun b u e=>by rw [Va (Wb e hn)]; exact e
 have nch:∀ b u,H b=some u->b ∉ ch:=fun b u e z=>by
  have:=(hf b z).1
  rw [e] at this; cases this
 refine I.step (t':=s.toks) (g':=s.gens) (d':=s.drawn) (ch:=ch) (fun b hb=>?_) (fun b o _ _ hc e _=>k b o hc e) (fun b o _ _ hc e _=>⟨o.slots,k b o hc e⟩) (fun b o hc e n=>?_) (fun b o hc e=>⟨o,k b o hc e⟩)
  (fun b xs e=>up b _ e) (fun b o u e=>up b _ e) (fun b ps e=>⟨#[],by rw [up b _ e]; simp⟩) (fun m hm=>?_) (fun b u e=>?_) I.bare
 ·obtain ⟨_,f1,_,f3,f4,f5⟩:=hf b hb
  exact ⟨f3,f1,f4,f5⟩
 ·rw [Va (Nat.ne_of_lt (Nat.lt_of_lt_of_le (Heap.lt_size e) hp))]; exact n
 ·obtain ⟨o,es,ep,ho,r⟩:=hm
  exact ⟨o,es,ep,k _ o (fun z=>(hf _ z).2.1 rfl) ho,r⟩
 ·by_cases hb:b=p
  ·subst hb
   rw [Xb] at e; cases e
   exact ⟨by rw [sizeLine_eq]; simp,[u,v],.cons ru (.cons rv .nil),⟨_,np,rfl,_,rfl,rfl⟩⟩
  ·rw [Va hb] at e
   refine (I.hok b u e).stay (fun c w hc q=>k c w ?_ q) (fun c q=>up c _ q) fun c xs q=>up c _ q
   rcases hc with z | z
   ·rw [z]; exact nch b u e
   ·exact nch c _ z
section
variable {K:PySem.W.Frag} {H:Hp} {θ:List Addr} {μ:Mem} {ds es:List D} {a b:Addr}
end
section
variable {X:Cx}
end
end DW
end
section
set_option maxHeartbeats 2000000
namespace DW
open PySem PySem.Spec PyProof.Rows L2
theorem Xaq:bootBuiltins (Str.ofString "enumerate")=some (.type "enumerate"):=by decide +kernel
noncomputable def Ite (K : PySem.W.Frag) (a : Addr) : L2.It :=
  ⟨fun i H => ∃ xs x, SqL K H a xs /\ xs[i]? = some x,
   fun i H v H' => ∃ p x, H p = none /\ v = .ref p /\ H' = upd H p (.tup [.int (i : Int), x]) /\ ∀ xs, SqL K H a xs -> xs[i]? = some x,
   fun i H => ∃ xs, SqL K H a xs /\ xs.length <= i⟩
theorem Xbj {cb:Bool} (hcb:cb=true) {P:Program} {w:World} {K:PySem.W.Frag} {es:List Expr} {k:Nat} {pos:Pos} (a z i1:Addr) (hzi:z≠i1) (haz:a≠z) (hai:a≠i1) :
  Turn cb P w K (.Tuple es k pos) (Ite K a) [z,i1] z (fun i h=>(∃ old,IsEnum h z i1 i old)/\h.IsListIter i1 a i) where
 mem:=by simp
 obj:=fun i h st c hc=>by
  obtain ⟨⟨old,hz⟩,⟨o1,e1,_,d1⟩⟩:=st
  simp only [List.mem_cons,List.not_mem_nil,or_false] at hc
  rcases hc with rfl | rfl
  ·exact ⟨_,hz,fun v q=>by cases q⟩
  ·exact ⟨_,e1,fun v q=>by rw [d1] at q; cases q⟩
 keep:=fun i h h' st kk=>by
  obtain ⟨⟨old,hz⟩,h1⟩:=st
  exact ⟨⟨old,kk z (by simp) _ hz⟩,h1.at fun o e=>kk i1 (by simp) o e⟩
 item:=by
  intro X hP hw hK hc i pins s σ H E I hf st hg
  subst hP hw hK
  obtain ⟨xs,x,hq1,hx⟩:=hg
  obtain ⟨⟨old,hz⟩,h1⟩:=st
  obtain ⟨its1,rv1,p1,_⟩:=I.list hq1
  obtain ⟨u1,hu1,ru1⟩:=rv1.get hx
  refine wpAny_pyNext_enum_item hz h1 p1.isList (x:=u1) (by simpa using hu1) hzi fun h' ho hit' hT hsz kk=>⟨_,rfl,?_⟩
  refine wpAny_letOwnedTupleGo_enum (s:={ s with heap:=h',toks:=s.toks + 1 }) ho fun h2' hz2 hs2=>?_
  have hzl:z < s.heap.objs.size:=Heap.lt_size hz
  have nz:s.heap.objs.size≠z:=Nat.ne_of_gt hzl
  have hil:i1 < s.heap.objs.size:=by obtain ⟨_,e,_⟩:=h1; exact Heap.lt_size e
  have I2:Inv X pins σ (upd H s.heap.objs.size (.tup [.int (i:Int),x])) { s with heap:=h2' }:=Yci (ch:=[z,i1]) I (fun q hq=>hf q hq)
   (fun q o hq e=>by
    simp only [List.mem_cons,List.not_mem_nil,or_false,not_or] at hq
    exact (hs2.2 q hq.1).trans (kk q o hq.1 hq.2 e)) (Nat.le_refl _) ((hs2.2 _ nz).trans hT) ⟨_,rfl⟩ ru1
  refine ⟨.ref s.heap.objs.size,_,I2.tok _,rfl,⟨s.heap.objs.size,x,I.hok.fresh (Nat.le_refl _),rfl,rfl,fun xs' h'=>by rw [I.list_inj h' hq1]; exact hx⟩,?_,fun q hq=>?_⟩
  ·exact ⟨⟨u1,by simpa using hz2⟩,hit'.at fun o y=>(hs2.2 i1 (Ne.symm hzi)).trans y⟩
  ·have hn:=(hf q hq).1
   rw [Va]
   ·exact hn
   ·intro e
    subst e
    simp only [List.mem_cons,List.not_mem_nil,or_false] at hq
    rcases hq with q | q
    ·exact nz q
    ·exact Nat.ne_of_gt hil q
 done:=by
  intro X hP hw hK hc i pins s σ H E I hf st hg
  subst hP hw hK
  obtain ⟨xs,hq1,hl⟩:=hg
  obtain ⟨⟨old,hz⟩,h1⟩:=st
  obtain ⟨its1,rv1,p1,_⟩:=I.list hq1
  have l1:=rv1.length
  obtain ⟨f0,f1,f2,f3,f4,f5⟩:=hf i1 (by simp)
  exact wpAny_pyNext_enum_end (I.ok.hd (hc.trans hcb)) hz h1 p1.isList (by simp; omega) fun h' eb=>⟨rfl,I.turned (t':=s.toks) (fun b o hb e=>eb b o hb e) f0 f1 f3 f4 f5⟩
 self:=fun _ _ _ _ _ st h=>by
  obtain ⟨⟨old,hz⟩,_⟩:=st
  exact wpAny_pyIter_enum hz h
section
variable {K:PySem.W.Frag} {H:Hp} {θ:List Addr} {μ:Mem} {ds:List D} {a:Addr}
theorem Vw:∀ (k:Nat) (ds:List D),(Zt k ds).length=ds.length
 | _,[]=>rfl
 | k,d :: ds=>by simp [Zt,Vw (k + 1) ds]
theorem Xap:∀ (k:Nat) (ds:List D) (i:Nat) (d:D),ds[i]? = some d->(Zt k ds)[i]? = some (.tup [.int ((k + i:Nat):Int),d])
 | _,[],i,d,h=>by simp at h
 | k,e :: ds,0,d,h=>by simp at h; subst h; simp [Zt]
 | k,e :: ds,i + 1,d,h=>by
  have:=Xap (k + 1) ds i d (by simpa using h)
  simp only [Zt,List.getElem?_cons_succ]
  rw [this]
  congr 4
  omega
theorem Vbg (hl:ds.length<=sizeLine) (g:Mem->Prop) (h:∀ (H':Hp) (θ':List Addr) (μ':Mem),WOk K H' θ' μ'->Grow H θ μ H' θ' μ'->g μ'->∃ xs,SqL K H' a xs/\Rps K H' θ' μ' ds xs):Zas K (Ite K a) (Zt 0 ds) g H θ μ:=by
 refine ⟨by rw [Vw]; exact hl,fun i H' θ' μ' w' gr hg=>?_⟩
 obtain ⟨xs,hx,rx⟩:=h H' θ' μ' w' gr hg
 refine ⟨fun hi=>?_,fun hi=>⟨xs,hx,?_⟩⟩
 ·rw [Vw] at hi
  have h1:ds[i]? = some ds[i]:=List.getElem?_eq_getElem hi
  obtain ⟨v,e1,e2⟩:=rx.get h1
  refine ⟨⟨xs,v,hx,e1⟩,fun x H'' y=>?_⟩
  obtain ⟨p,x',hn,rfl,rfl,y1⟩:=y
  have:=y1 xs hx
  rw [e1] at this; cases this
  have ext:∀ b o,H' b=some o->(upd H' p (.tup [.int (i:Int),v])) b=some o:=Xl hn
  refine ⟨w'.ext ext,Grow.ext ext,_,Xap 0 ds i _ h1,?_⟩
  unfold Rep
  refine ⟨p,[.int (i:Int),v],rfl,Xb,w'.notLive hn,Reps.cons ?_ (Reps.one ((Grow.ext ext).rep e2))⟩
  rw [Nat.zero_add]; exact Vd
 ·rw [Vw] at hi
  have:=rx.length
  omega
end
section
variable {X:Cx}
theorem Zcb {l:Expr} {wl:WE} {y:Str} {p pos tp:Pos} {es:List Expr} {k:Nat} (hcl:X.calm=true) (ey:y=Str.ofString "enumerate") (hg:Gl X y) (hm:X.mg y=none) (hl:PE X l (LE X.K wl)) (hs:starEach [l] X.env=[(false,eval l X.env)]) :
  PI X (.Tuple es k tp) (.Call (.Name y p) [l] [] pos) (LI X.K fun ρ μ Q=>wl ρ μ fun a μ1=>Xa9 a μ1 Q):=by
 subst ey
 intro pins s σ H R I h
 obtain ⟨ρ,θ,μ,Qi,sm,h,f⟩:=h
 have hA:PA X [l] (Z9 (LE X.K wl) tNil):=Yl hl Zw (by rw [hs]; rfl)
 refine Call_ (Vt I hg hm Xaq (PyProof.Rows.callWith_type1 (thn (hA pos pins s σ H (fun vs H2=>∃ d v θ2 μ2,vs=[v]/\WOk X.K H2 θ2 μ2/\Grow H θ μ H2 θ2 μ2/\Rp X.K H2 θ2 μ2 d v/\Xa9 d μ2 Qi) I
  ⟨ρ,θ,μ,_,sm,h,fun d v H1 θ1 μ1 w1 g1 r1 h1=>⟨d,v,θ1,μ1,rfl,w1,g1,r1,h1⟩⟩) fun us s1 ⟨vs,H2,I2,rv,d,v,θ2,μ2,ev,w2,g2,rd,hq⟩=>?_) (by rw [hs]; rfl) rfl))
 subst ev
 unfold Xa9 at hq
 split at hq
 ·rename_i as ha
  obtain ⟨a,xs,rfl,sa,ra⟩:=Xg w2 rd ha
  cases rv with
  | cons r1 rr =>
   cases rr
   cases r1
   obtain ⟨i1,v1,p1,z1⟩:=I2.list sa
   have la:as.length<=sizeLine:=by rw [ra.length]; exact z1
   obtain ⟨oa,ga,_⟩:=p1.isList
   have ha':a < s1.heap.objs.size:=Heap.lt_size ga
   refine call_enumerate_list p1.isList fun h' a1 a2 a3 kk=>?_
   have I3:Inv X pins σ H2 { s1 with heap:=h' }:=I2.kept (t':=s1.toks) kk
   refine wpAny_pyIter_enum a1 ⟨_,_,_,Ite X.K a,H2,rfl,I3,Xbj hcl a _ _ (Nat.ne_of_gt (Nat.lt_succ_self _)) (Nat.ne_of_lt (Nat.lt_succ_of_lt ha')) (Nat.ne_of_lt ha'),⟨⟨_,a1⟩,a2⟩,fun q hq'=>?_,?_⟩
   ·have:s1.heap.objs.size<=q:=by
     simp only [List.mem_cons,List.not_mem_nil,or_false] at hq'
     rcases hq' with rfl | rfl
     ·exact Nat.le_succ _
     ·exact Nat.le_refl _
    exact I2.fpOk this (I2.hok.fresh this)
   ·refine f _ _ _ H2 θ2 μ2 w2 g2 (Vbg la _ fun H' θ' μ' w' gr hg=>?_) hq
    obtain ⟨a',xs',e1,s1',r1'⟩:=Xg w' (gr.rep rd) hg
    cases e1
    exact ⟨xs',s1',r1'⟩
 ·exact hq.elim
end
end DW
end
section
set_option maxHeartbeats 2000000
namespace DW
open PySem PySem.Spec PyProof.Rows L2
section
variable {K:PySem.W.Frag} {H:Hp} {θ:List Addr} {μ:Mem} {ds:List D} {a:Addr}
end
section
variable {X:Cx} {tg:Expr}
end
end DW
end
section
set_option maxHeartbeats 2000000
namespace DW
open PySem PySem.Spec PyProof.Rows L2
section
variable {prog:Program} {w:World} {A:Around} {E:Value->Shared->Prop} {s:Shared}
end
end DW
namespace DW
open PySem PySem.Spec PyProof.Rows L2
section
variable {prog:Program} {w:World} {A:Around} {E:Value->Shared->Prop} {s:Shared}
end
end DW
namespace DW
open PySem PySem.Spec PyProof.Rows L2
section
variable {X:Cx}
end
end DW
end
section
set_option maxHeartbeats 2000000
namespace DW
open PySem PySem.Spec PyProof.Rows L2
section
variable {prog:Program} {w:World} {A:Around} {E:Value->Shared->Prop} {s:Shared}
end
end DW
end
section
set_option maxHeartbeats 2000000
namespace DW
open PySem PySem.Spec PyProof.Rows L2
section
variable {prog:Program} {w:World} {A:Around} {E:Value->Shared->Prop} {s:Shared}
end
section
variable {X:Cx}
end
end DW
end
section
namespace DW
open PySem PySem.Spec PyProof.Rows L2
section
variable {X:Cx}
end
set_option maxHeartbeats 1000000
section
variable {prog:Program} {w:World} {A:Around} {R:Result->Shared->Prop} {I l S:Addr} {items:Array Value} {val:Nat->Int} {dv:Value}
end
section
variable {X:Cx}
end
end DW
end
section
set_option maxHeartbeats 2000000
namespace DW
open PySem PySem.W PySem.Spec PySem.Calls PyProof.Rows Builtin.Getset_descriptor
structure ExcCls (K:Frag) (C:Addr):Prop where
 ga:findIn K (.ref C) "__getattribute__" = some (some (.builtin "BaseException.__getattribute__"))
 hk:findIn K (.ref C) "__getattr__" = some none
 ex:mroIn K C (.type "BaseException")=some true
 ob:mroIn K C (.type "object")=some true
 ca:findIn K (.ref C) "__class__" = some (some (.builtin "object.__class__"))
 cg:specialIn K (.builtin "object.__class__") "__get__" = some (some (.builtin "getset_descriptor.__get__"))
 ct:takesIn K (.builtin "object.__class__")=some true
 cl:(clsIn K C).isSome=true
theorem ExcAt.ty {M:Model} {h:Heap} {x C:Addr} (p:ExcAt x C h):Looks M h (typeOf (.ref x)) (.ref C):=by
 obtain ⟨o,h1,h2⟩:=p
 exact h2 ▸ (Looks.ld h1).andThen .now
section
variable {prog:Program} {w:World} {A:Around} {E:Value->Shared->Prop} {s:Shared} {K:Frag} {x C:Addr} {name:Str}
end
end DW
end
section
set_option maxHeartbeats 2000000
namespace DW
open PySem PySem.W PySem.Spec PyProof.Rows L2
structure Fly (outer:List Env) (H H':Hp) (h h':Heap) (B:Heap) (ea:Addr) (ob:Obj) (vs:Array Value) (P:Program) (w:World):Prop where
 un:Un (frs outer) [] H H' h h'
 hok:HOk P w H' h'
 fl:FlyX B outer ea ob vs .none h'
 ctx:vs[2]? = some .none
 old:∀ b o,h.get? b=some o->b ∉ frs outer->∃ o',B.get? b=some o'
 trk:∀ b u,H' b=some u->∃ o,B.get? b=some o
noncomputable def CXE (P:Program) (w:World):CXT:=fun outer H s E e s' =>
 ∃ (ea:Addr) (ob:Obj) (vs:Array Value) (B:Heap) (H':Hp),e = .ref ea/\s'.os=s.os/\AllBare s'.gens/\Fly outer H H' s.heap s'.heap B ea ob vs P w/\E ob.cls ob.dict H'
structure Leaves (X:Cx) (E:XK):Prop where
 stk:X.stack=X.env :: X.outer
 fr:X.env.frame=some X.env.locals
 ex:X.ex=[]
 xe:X.xe=fun e s'=>wpAny (model X.prog X.w) X.A (leaving X.env e) (fun _ s''=>CXE X.prog X.w X.outer X.H₀ X.s₀ E e s'') (fun e' s''=>CXE X.prog X.w X.outer X.H₀ X.s₀ E e' s'') s'
theorem Wbr {P:Program} {w:World} {K:Frag} {mg:Str->Option Value} {base:Heap} {N:List Str} {qual:Str} {scope:Scope} {f:Addr} {cd:Value} {A:Around} {outer:List Env} {s:Shared} {H:Hp} {E:XK} :
  Leaves (cxOf (CXE P w) P w K mg base N qual scope f cd A outer s H E) E:=⟨rfl,rfl,rfl,rfl⟩
theorem un_fly {fs:List Addr} {H0 H:Hp} {h0 h h' B:Heap} {fr:List Addr} (u:Un fs [] H0 H h0 h) (hB:∀ b o,(∃ o0,h0.get? b=some o0)->h.get? b=some o->b ∉ fr->B.get? b=some o) (st:B.StaysIn h')
  (up:∀ b∈fr,∀ o,h.get? b=some o->∃ sl,h'.get? b=some { o with slots:=sl }) (nl:∀ b o,h0.get? b=some o->b∈fr->b∈fs):Un fs [] H0 H h0 h' where
 keep:=fun b o q n hb hx=>by
  have e:=u.keep b o q n hb hx
  exact st b o (hB b o ⟨o,q⟩ e fun z=>hb (nl b o q z))
 slot:=fun b o q n hb hx=>by
  obtain ⟨sl,e⟩:=u.slot b o q n hb hx
  by_cases z:b∈fr
  ·obtain ⟨sl',e'⟩:=up b z _ e
   exact ⟨sl',e'⟩
  ·exact ⟨sl,st b _ (hB b _ ⟨o,q⟩ e z)⟩
 free:=u.free
 there:=fun b o q hx=>by
  obtain ⟨o',e⟩:=u.there b o q hx
  by_cases z:b∈fr
  ·obtain ⟨sl',e'⟩:=up b z _ e
   exact ⟨_,e'⟩
  ·exact ⟨o',st b _ (hB b _ ⟨o,q⟩ e z)⟩
 tups:=u.tups
 frzs:=u.frzs
 tbls:=u.tbls
theorem hok_fly {P:Program} {w:World} {H:Hp} {h h' B:Heap} (hok:HOk P w H h) (hB:∀ b u,H b=some u->∃ o,B.get? b=some o) (s1:B.StaysIn h) (st:B.StaysIn h'):HOk P w H h':=fun a o e=>by
 have k:∀ b v,H b≠none->h.get? b=some v->h'.get? b=some v:=fun b v hb hv=>by
  cases q:H b with
  | none=>exact absurd q hb
  | some u =>
   obtain ⟨o',e'⟩:=hB b u q
   have:=s1 b o' e'
   rw [hv] at this; cases this
   exact st b _ e'
 refine (hok a o e).stay (fun b u hb q=>k b u ?_ q) (fun _ q=>q) fun _ _ q=>q
 rcases hb with rfl | z
 ·rw [e]; simp
 ·rw [z]; simp
section
variable {X:Cx} {E E':XK} {pins:List (Addr×Obj)} {σ:L2.St} {H:Hp} {s s':Shared} {e:Value}
theorem fr_up {l:List Env} {base h h':Heap} (F:h.FunFrames base l) (up:h.UpToSlots h'):∀ b∈frs l,∀ o,h.get? b=some o->∃ sl,h'.get? b=some { o with slots:=sl }:=fun b hb o ho=>by
 obtain ⟨_,o',e',nf⟩:=F.mem hb
 rw [ho] at e'; cases e'
 exact up b o ho nf
theorem frs_eq (L:Leaves X E):frs X.stack=X.env.locals :: X.fs:=by rw [L.stk]; unfold frs; rw [List.filterMap_cons,L.fr]; rfl
theorem Wbp (L:Leaves X E) (I:Inv X pins σ H s) {b:Addr} {o:Obj} (q:X.s₀.heap.get? b=some o) (z:b∈frs X.stack):b∈X.fs:=by
 rw [frs_eq L] at z
 rcases List.mem_cons.mp z with z | z
 ·exact absurd (Heap.lt_size q) (by rw [z]; exact Nat.not_lt.mpr I.ok.above)
 ·exact z
theorem fly_inv {H':Hp} {B:Heap} {ea:Addr} {ob:Obj} {vs:Array Value} (I:Inv X pins σ H s) (ho:s'.os=s.os) (hg:AllBare s'.gens) (F:Fly X.stack H H' s.heap s'.heap B ea ob vs X.prog X.w):Inv X pins σ H' s' :=
 I.call' (ch:=[]) ho F.un F.hok hg fun b z=>absurd z (by simp)
theorem call_xe (L:Leaves X E) (I:Inv X pins σ H s) (hE:∀ cls dx H',E' cls dx H'->E cls dx H') (h:CXE X.prog X.w X.stack H s E' e s'):X.xe e s':=by
 obtain ⟨ea,ob,vs,B,H',rfl,ho,hg,F,q⟩:=h
 have I':=fly_inv I ho hg F
 rw [L.xe]
 have hfr:X.A.frames=some (X.env :: X.outer):=by rw [I.ok.frames,L.stk]
 have fl:=F.fl
 have F0:s'.heap.FunFrames B X.stack:=fl.fun_
 rw [L.stk] at fl
 have hbase:Un X.fs [] X.H₀ H' X.s₀.heap s'.heap:=by have:=I'.base; rw [L.ex] at this; exact this
 have hbase0:Un X.fs [] X.H₀ H X.s₀.heap s.heap:=by have:=I.base; rw [L.ex] at this; exact this
 refine Vcg hfr L.fr fl fun h2 fl2 up=>?_
 have inB:∀ b,(∃ o0,X.s₀.heap.get? b=some o0)->b ∉ frs X.stack->∃ o',B.get? b=some o':=fun b ⟨o0,q0⟩ z=>by
  obtain ⟨o1,e1⟩:=hbase0.there b o0 q0 (by simp)
  exact F.old b o1 e1 z
 refine ⟨ea,ob,vs,B,H',rfl,I'.os,I'.bare,⟨?_,?_,fl2,F.ctx,?_,F.trk⟩,hE _ _ H' q⟩
 ·refine un_fly hbase (fun b o hb q0 z=>?_) fl2.stay (fr_up F0 up) fun b o q0 z=>Wbp L I q0 z
  obtain ⟨o',e'⟩:=inB b hb z
  have:=fl.stay b o' e'
  rw [q0] at this; cases this
  exact e'
 ·exact hok_fly F.hok F.trk fl.stay fl2.stay
 ·intro b o q0 z
  exact inB b ⟨o,q0⟩ fun y=>z (Wbp L I q0 y)
end
end DW
end
section
set_option maxHeartbeats 2000000
namespace DW
open PySem PySem.W PySem.Spec PyProof.Rows L2
abbrev bmVE:List Value:=[.type "ValueError",.type "Exception",.type "BaseException",.type "object"]
section
variable {X:Cx} {E:XK} {x:Str} {C:Addr} {np cpos pos:Pos} {args:List Expr} {t:TA}
end
noncomputable def Meets (X:Cx) (EX:L2.St->XK):Prop:=∀ (pins:List (Addr×Obj)) (σ:L2.St) (H:Hp) (s:Shared) (E':XK) (e:Value) (s':Shared),Inv X pins σ H s->(∀ cls dx H',E' cls dx H'->EX σ cls dx H')->CXE X.prog X.w X.stack H s E' e s'->X.xe e s'
theorem meets_of {X:Cx} {E:XK} (L:Leaves X E):Meets X fun _=>E:=fun pins σ H s E' e s' I hE h=>call_xe L I hE h
section
variable {X:Cx} {EX:L2.St->XK} {k:Nat} {f C:Addr} {fd:FuncData} {ps:List Str} {sp:Sp} {x m:Str} {p pos apos:Pos} {e o:Expr} {es:List Expr} {ta:TE} {t:TA}
end
end DW
end
section
set_option maxHeartbeats 2000000
namespace DW
open PySem PySem.W PySem.Spec PyProof.Rows L2
section
variable {X:Cx} {pins:List (Addr×Obj)} {σ:L2.St} {H H':Hp} {s s':Shared} {ea:Addr} {oe:Obj}
end
section
variable {X:Cx} {pins pn:List (Addr×Obj)} {σ:L2.St} {H:Hp} {s:Shared} {ξ:Value->Shared->Prop}
end
section
variable {X:Cx} {i:Nat} {n P:Str} {np hpos pos:Pos} {b₀:Stmt} {suite body:List Stmt} {CP:Addr} {tb:(L2.St->XK)->TS} {th:TS}
noncomputable def takes (X:Cx) (CP:Addr) (i:Nat) (th:TS) (D:Ends):L2.St->XK:=fun σ' cls dx H'=>∃ C,cls = .ref C/\exmOne X.K (.ref C) (.ref CP)=some true /\
 ∀ ea oe u,H' ea=none->oe.cls = .ref C->PySem.W.notCls oe=true->oe.dict=dx->th { nx:=fun _ _=>False,rt:=D.rt } (σ'.set i (some (.ref ea))) (upd H' ea (.frz oe u))
end
end DW
end
section
set_option maxHeartbeats 2000000
namespace DW
open PySem PySem.W PySem.Spec PyProof.Rows L2 Builtin.ObjectAttr
noncomputable def Wbv:List Value->Bool
 | .ref _ :: r=>Wbv r
 | l=>l == bmVE
noncomputable def excOver (K:Frag) (C:Addr):Bool:=(clsIn K C).any fun cd=>Wbv cd.mro && !cd.mro.isEmpty
section
variable {prog:Program} {w:World} {A:Around} {E:Value->Shared->Prop} {s:Shared} {K:Frag} {x C:Addr} {R:Result->Shared->Prop}
end
end DW
end
section
set_option maxHeartbeats 2000000
namespace DW
open PySem PySem.W PySem.Spec PyProof.Rows L2
section
variable {prog:Program} {w:World} {A:Around} {E:Value->Shared->Prop} {h:Heap} {g:Array GenState} {d:Drawn} {t:Nat} {os:OsState}
variable {nm q:Str} {C N:Addr} {bs bm bmB:List Value} {hdct:Bool} {sn:List Str} {sub:List Value} {ab:Bool} {col:Option Bool} {dd:Option Addr} {k0 k1 k2 k3 k5:Option Value} {B newId initId:String}
end
section
variable {prog:Program} {w:World} {A:Around} {E:Value->Shared->Prop} {s:Shared} {env:Env}
variable {nm q:Str} {C N:Addr} {bs bm bmB:List Value} {hdct:Bool} {sn:List Str} {sub:List Value} {ab:Bool} {col:Option Bool} {dd:Option Addr} {k0 k1 k2 k3 k5:Option Value} {B newId initId:String}
end
end DW
end
section
set_option maxHeartbeats 2000000
namespace DW
open PySem PySem.W PySem.Spec PyProof.Rows L2
noncomputable abbrev errObj (C t:Addr) (d:Option Addr):Obj:={ cls:=.ref C,dict:=d,data:=.fields #[.ref t,.none,.none,.none,.bool false,.none] }
noncomputable def ErrO (a C:Addr) (d:Option Addr):HO:=.ext fun h=>∃ t,h.get? a=some (errObj C t d)
section
variable {P:Program} {w:World} {H:Hp} {h h':Heap} {a C t:Addr} {d:Option Addr} {o:HO} {fs:List (Str×V)} {mA:Str->Option Value}
noncomputable def drop (H:Hp) (a:Addr):Hp:=fun b=>if b=a then none else H b
end
structure ErrC (K:Frag) (C:Addr):Prop where
 ov:excOver K C=true
 ob:mroIn K C (.type "object")=some true
 hd:hasDictIn K C=true
 sa:findIn K (.ref C) "__setattr__" = some (some (.builtin "object.__setattr__"))
section
variable {X:Cx} {pins:List (Addr×Obj)} {σ:L2.St} {H:Hp} {s:Shared} {a C dx:Addr} {fs:List (Str×V)} {f:Str} {E:Value->Shared->Prop}
theorem ErrC.has (c:ErrC X.K C):(clsIn X.K C).any (·.hasDict)=true:=c.hd
end
def spI (K:Frag) (xs:List Str):Sp:=fun vs H Q E=>∃ a C ys,vs = .ref a :: ys/\ys.length=xs.length/\H a=some (ErrO a C none)/\ErrC K C/\(∀ x∈xs,Yas K C x) /\
 ∀ dx,H dx=none->dx≠a->Q .non (upd (upd H dx (DcO dx (xs.zip ys))) a (ErrO a C (some dx)))
noncomputable def excInI (K:Frag) (C:Addr) (bmB:List Value) (newId:String) (fa:Addr):Bool:=match K.lookup C with
 | some ⟨.type "type",_,.cls cd,sl⟩=>(match cd.mro,sl.toList with
  | .ref C' :: bm,[_,_,_,_,some (.builtin n),_]=>C' == C && n == newId && !cd.hasDel && tailIn K bmB bm && nsOkIn K cd.ns && nsIn K cd.ns "__init__" == some (some (.ref fa))
  | _,_=>false)
 | _=>false
section
variable {X:Cx} {E:XK} {x:Str} {C fa:Addr} {np cpos pos:Pos} {args:List Expr} {t:TA} {k:Nat} {fd:FuncData} {sf:Str} {xs:List Str}
end
end DW
end
section
set_option maxHeartbeats 2000000
namespace DW
open PySem PySem.Spec PyProof.Rows L2
noncomputable def low (K:PySem.W.Frag) (sp:DSp):Sp:=fun vs H Q _=>∃ ds θ μ Qd,WOk K H θ μ/\Rps K H θ μ ds vs/\sp ds μ Qd/\Fin K H θ μ Qd Q
noncomputable def FinX (K:PySem.W.Frag) (H:Hp) (θ:List Addr) (μ:Mem) (Xd:QX) (E:XK):Prop:=∀ (H':Hp) (θ':List Addr) (μ':Mem) (c:String) (ks:List String) (ds:List D),WOk K H' θ' μ'->Grow H θ μ H' θ' μ'->Xd c ks ds μ'->XLand K E H' θ' μ' c ks ds
noncomputable def lowX (K:PySem.W.Frag) (sp:DSpX):Sp:=fun vs H Q E=>∃ ds θ μ Qd Xd,WOk K H θ μ/\Rps K H θ μ ds vs/\sp ds μ Qd Xd/\Fin K H θ μ Qd Q/\FinX K H θ μ Xd E
theorem passE {X:Cx}:Va8 (CXE X.prog X.w) X E0:=fun _ _ _ _ _ _ _ h=>by
 obtain ⟨_,_,_,_,_,_,_,_,_,q⟩:=h
 exact q.elim
noncomputable def ClsVal (mg:Str->Option Value) (t:String) (v:V):Prop :=
 (∃ C,v = .ref C/\mg (Str.ofString t)=some (.ref C))∨(v = .ty t/\mg (Str.ofString t)=none/\bootBuiltins (Str.ofString t)=some (.type t)/\Str.ofString t≠"__name__")
noncomputable def Ya1 (mg:Str->Option Value):List String->List V->Prop
 | [],[]=>True
 | t :: ts,v :: vs=>ClsVal mg t v/\Ya1 mg ts vs
 | _,_=>False
noncomputable def clsU:V->Value
 | .ref a=>.ref a
 | .ty n=>.type n
 | _=>.none
noncomputable def IsxAt (K:PySem.W.Frag) (mg:Str->Option Value) (tt:Bool) (ts:List String) (tab:List (String×Bool)):Prop:=∃ vs,Ya1 mg ts vs/\∀ p∈tab,∃ C,PySem.W.nsIn K mainGlobals (Str.ofString p.1)=some (some (.ref C))/\ExcCls K C /\
 (if tt=true then PySem.W.kitAny K (.ref C) (vs.map clsU)=some p.2 else ∃ v,vs=[v]/\PySem.W.kitOne K (.ref C) (clsU v)=some p.2)
noncomputable def HdlAt (K:PySem.W.Frag) (mg:Str->Option Value) (P:String) (tab:List String):Prop:=∃ CP,mg (Str.ofString P)=some (.ref CP)/\∀ c∈tab,∃ C,PySem.W.nsIn K mainGlobals (Str.ofString c)=some (some (.ref C))/\PySem.W.exmOne K (.ref C) (.ref CP)=some true
noncomputable def RseAt (K:PySem.W.Frag) (mg:Str->Option Value) (c:String):Prop:=∃ C,PySem.W.nsIn K mainGlobals (Str.ofString c)=some (some (.ref C))/\mg (Str.ofString c)=some (.ref C)/\PySem.W.excIn K C bmVE "ValueError.__new__" = true
noncomputable def IniAt (P:Program) (w:World) (K:PySem.W.Frag) (mg:Str->Option Value) (base:Heap) (c:String) (ks:List String):Prop:=∃ (C fa:Addr) (fd:FuncData) (sf:Str),PySem.W.nsIn K mainGlobals (Str.ofString c)=some (some (.ref C))/\mg (Str.ofString c)=some (.ref C) /\
 excInI K C bmVE "ValueError.__new__" fa=true/\PySem.W.isFn K (.ref fa)=true/\ErrC K C/\(∀ y∈ks.map (fun k=>Str.ofString k),Yas K C y)/\Binds K fd (sf :: ks.map (fun k=>Str.ofString k)) []/\ks≠[]/\ks.length<=9 /\
 FnOk P w K mg base (CXE P w) 1 fa fd (sf :: ks.map (fun k=>Str.ofString k)) (spI K (ks.map (fun k=>Str.ofString k)))
noncomputable def EflAt (K:PySem.W.Frag) (f:String) (tab:List String):Prop:=∀ c∈tab,∃ C,PySem.W.nsIn K mainGlobals (Str.ofString c)=some (some (.ref C))/\ExcCls K C/\Yas K C (Str.ofString f)/\PySem.W.hasDictIn K C=true
noncomputable def DinAt (K:PySem.W.Frag) (mg:Str->Option Value) (x:Str) (ks:List (List Nat)):Prop:=∃ a,mg x=some (.ref a)/\dicOk K a=true/\(Zby K a).map (fun p=>p.1.cps.toList)=ks
noncomputable def DspAt (P:Program) (w:World) (K:PySem.W.Frag) (mg:Str->Option Value) (base:Heap) (k:Nat) (x:Str) (ks:List (List Nat)) (sp:DSpX):Prop:=∃ a,mg x=some (.ref a)/\dicOk K a=true/\(Zby K a).map (fun p=>p.1.cps.toList)=ks /\
 ∀ ds μ Q Xq,sp ds μ Q Xq->∃ t r fa fd ps sp',ds = .str t :: r/\KTD.datumAt (⟨t.toArray⟩:Str) (Zby K a)=some fa/\Binds K fd ps []/\FnOk P w K mg base (CXE P w) k fa fd ps (lowX K sp')/\sp' r μ Q Xq
noncomputable def Vv (X:Cx):Rf->DSp->Prop
 | .fn x,sp=>∃ (fa:Addr) (fd:FuncData) (ps:List Str) (k:Nat),X.mg x=some (.ref fa)/\PySem.W.keepIn X.K (.ref fa)=true/\Binds X.K fd ps []/\FnOk X.prog X.w X.K X.mg X.base (CXE X.prog X.w) k fa fd ps (low X.K sp)/\Room k X.A
 | .mth c m,sp=>∃ (C fa:Addr) (fd:FuncData) (ps:List Str) (k:Nat),PySem.W.nsIn X.K mainGlobals (Str.ofString c)=some (some (.ref C))/\Cls X.K C/\Meth X.K C (Str.ofString m) fa/\Binds X.K fd ps []/\FnOk X.prog X.w X.K X.mg X.base (CXE X.prog X.w) k fa fd ps (low X.K sp)/\Room k X.A
 | .mk c,sp=>∃ (C fa:Addr) (fd:FuncData) (ps:List Str) (k:Nat),PySem.W.nsIn X.K mainGlobals (Str.ofString c)=some (some (.ref C))/\X.mg (Str.ofString c)=some (.ref C)/\Mk X.K C fa/\Binds X.K fd ps []/\FnOk X.prog X.w X.K X.mg X.base (CXE X.prog X.w) k fa fd ps (low X.K sp)/\Room (k + 1) X.A
 | .fld c f,_=>∃ C:Addr,PySem.W.nsIn X.K mainGlobals (Str.ofString c)=some (some (.ref C))/\Cls X.K C/\Yas X.K C (Str.ofString f)
 | .fnX x sp,_=>∃ (fa:Addr) (fd:FuncData) (ps:List Str) (k:Nat),X.mg x=some (.ref fa)/\PySem.W.keepIn X.K (.ref fa)=true/\Binds X.K fd ps []/\FnOk X.prog X.w X.K X.mg X.base (CXE X.prog X.w) k fa fd ps (lowX X.K sp)/\Room k X.A
 | .mthX c m sp,_=>∃ (C fa:Addr) (fd:FuncData) (ps:List Str) (k:Nat),PySem.W.nsIn X.K mainGlobals (Str.ofString c)=some (some (.ref C))/\Cls X.K C/\Meth X.K C (Str.ofString m) fa/\Binds X.K fd ps []/\FnOk X.prog X.w X.K X.mg X.base (CXE X.prog X.w) k fa fd ps (lowX X.K sp)/\Room k X.A
 | .mkX c sp,_=>∃ (C fa:Addr) (fd:FuncData) (ps:List Str) (k:Nat),PySem.W.nsIn X.K mainGlobals (Str.ofString c)=some (some (.ref C))/\X.mg (Str.ofString c)=some (.ref C)/\Mk X.K C fa/\Binds X.K fd ps []/\FnOk X.prog X.w X.K X.mg X.base (CXE X.prog X.w) k fa fd ps (lowX X.K sp)/\Room (k + 1) X.A
 | .rse c,_=>RseAt X.K X.mg c
 | .lam,_=>∃ tc tP:Addr,PySem.W.tabIn X.K Wh=some (tc,tP)/\X.env.code = .ref tc/\X.env.qual ++ "<lambda>" = lamQ/\PySem.W.CodeHd X.base tc tP/\X.base.BuiltinsAt X.mg tP/\mainGlobals≠tP
 | .din x ks,_=>DinAt X.K X.mg x ks
 | .dsp x ks sp,_=>∃ k:Nat,Room k X.A/\DspAt X.prog X.w X.K X.mg X.base k x ks sp
 | .fnM x,sp=>∃ (fa:Addr) (fd:FuncData) (ps:List Str),X.mg x=some (.ref fa)/\PySem.W.keepIn X.K (.ref fa)=true/\Binds X.K fd ps []/\FnOk X.prog X.w X.K X.mg X.base (CXE X.prog X.w) 15 fa fd ps (low X.K sp)/\Room 15 X.A
 | .rsi c ks,_=>IniAt X.prog X.w X.K X.mg X.base c ks/\Room 2 X.A
 | .efl f tab,_=>EflAt X.K f tab
 | .hdl P tab,_=>HdlAt X.K X.mg P tab
 | .isx tt ts tab,_=>IsxAt X.K X.mg tt ts tab
noncomputable def Vq (X:Cx) (x:Str) (d:D):Prop:=∃ (u:Value) (v:V),X.mg x=some u/\RelV v u/\∀ H θ μ,Rp X.K H θ μ d v
structure CtxOk (X:Cx) (c:Ctx):Prop where
 N:X.N=c.N
 nd:c.N.Nodup
 vis:∀ x,c.vis x=true->Vis X.env.scope x
 loc:∀ x,c.loc x=true->Loc X.env.scope x/\(X.fn x=true∨X.env.scope.names.lookup x=some .local)
 isl:∀ x,isLocal c x=true->X.env.scope.names.lookup x=some .local
 glb:∀ x,c.glb x=true->Gl X x
 clo:∀ x,(c.names.lookup x=some .cell∨c.names.lookup x=some .free)->(X.env.kindOf x=some .cell∨X.env.kindOf x=some .free)
 blt:∀ x,c.blts.contains x=true->X.mg x=none
 calm:c.calm=true->X.calm=true
 room:∃ k,Room k X.A
 pas:PassesOwn (model X.prog X.w) X.A X.env X.xe
theorem Wv {c:Ctx} {i:Nat} {x:Str} (h:c.at_ i x=true):c.N[i]? = some x:=by
 unfold Ctx.at_ at h
 split at h
 ·rename_i y e; rw [e,of_decide_eq_true h]
 ·cases h
theorem Zh {e:Expr} {es:List Expr} {env:Env} (h:notStar e=true):starEach (e :: es) env=(false,eval e env) :: starEach es env:=by
 cases e <;> first | rfl | exact (Bool.false_ne_true h).elim
theorem Yn {c:Ctx} {pos:Pos} {env:Env}:∀ {es:Es} {as:List Expr},mEs c es as=true->(backTo pos (starEach as env)).any (·.1)=false
 | .nil,as,h=>by
  have:as=[]:=by simpa [mEs] using h
  subst this; rfl
 | .cons e es,as,h=>by
  cases as with
  | nil=>simp [mEs] at h
  | cons a as =>
   simp only [mEs,Bool.and_eq_true] at h
   rw [Zh h.1.2]
   show (false || (backTo pos (starEach as env)).any (·.1))=false
   rw [Yn h.2]; rfl
theorem Ya6 {c:Ctx}:∀ {es:Es} {as:List Expr},mEs c es as=true->Yap es=as.length
 | .nil,as,h=>by
  have:as=[]:=by simpa [mEs] using h
  subst this; rfl
 | .cons e es,as,h=>by
  cases as with
  | nil=>simp [mEs] at h
  | cons a as =>
   simp only [mEs,Bool.and_eq_true] at h
   simp [Yap,Ya6 h.2]
theorem Xr {x:Str} (h:Yo x=false):(x == ("__debug__" : Str))=false/\(x == ("__classdict__" : Str))=false:=by
 unfold Yo at h
 exact Bool.or_eq_false_iff.mp h
theorem V4 {op:CmpOp} {e:Expr} (h:Vj e=true):behindInMarks op e=false:=by
 cases e <;> first | rfl | exact (Bool.false_ne_true h).elim
theorem X7 {e:Expr} {env:Env} (h:Vj e=true):∀ v,foldedSetIterable e env v=pure v:=by
 intro v
 cases e <;> first | rfl | exact (Bool.false_ne_true h).elim
theorem Zad {e:Expr} (h:Wi e=true):Za1 e:=by
 intro o i
 cases e <;> first | rfl | exact (Bool.false_ne_true h).elim
theorem Vaf {e:Expr} {t:Option Expr} {n:Nat} {env:Env} (h:Xi e=true):swapsWith e t n env=pure false:=by
 cases e <;> first | rfl | exact (Bool.false_ne_true h).elim
structure Snd (X:Cx) (e:E) (a:Expr):Prop where
 pe:PE X a (LE X.K (wE e))
 pt:PT X a (LT X.K (wT e))
 pw:∀ op vs pos,a = .BoolOp op vs pos->PW X a (LT X.K (wT e))
section
variable {X:Cx}
theorem Ye {a:Expr}:PT X a (LT X.K fun _ _ _=>False):=fun pins s σ H Q I h=>by obtain ⟨_,_,_,_,_,h,_⟩:=h; exact h.elim
theorem lt_bl {t:TE} {w:WE} {σ:L2.St} {H:Hp} {Q:Bool->Hp->Prop} (ht:∀ σ H Q,LE X.K w σ H Q->t σ H Q) (h:LT X.K (fun ρ μ Q=>w ρ μ fun r μ1=>wBl r μ1 Q) σ H Q):Xb7 t σ H Q:=by
 obtain ⟨ρ,θ,μ,Qd,s,h,f⟩:=h
 refine ht σ H _ ⟨ρ,θ,μ,_,s,h,fun r v H1 θ1 μ1 w1 g1 r1 h1=>?_⟩
 cases r with
 | bl b=>exact ⟨b,Vf r1,f b H1 θ1 μ1 w1 g1 h1⟩
 | _=>exact h1.elim
theorem Xa4 {p q:CmpOp} {wa wb wc:WE} {σ:L2.St} {H:Hp} {Q:VK}
  (h:LE X.K (fun ρ μ Q=>wa ρ μ fun x μ1=>wb ρ μ1 fun y μ2=>wCmp p x y μ2 fun r μ3=>wBl r μ3 fun t μ3=>if t=true then wc ρ μ3 fun z μ4=>wCmp q y z μ4 Q else Q (.bl false) μ3) σ H Q) :
  Wa2 (low2 X.K (wCmp p)) (low2 X.K (wCmp q)) (LE X.K wa) (LE X.K wb) (LE X.K wc) σ H Q:=by
 obtain ⟨ρ,θ,μ,Qd,s,h,f⟩:=h
 refine ⟨ρ,θ,μ,_,s,h,fun x v H1 θ1 μ1 w1 g1 r1 h1=>⟨ρ,θ1,μ1,_,s.grow w1 g1,h1,fun y v2 H2 θ2 μ2 w2 g2 r2 h2=>⟨x,y,θ2,μ2,_,w2,g2.rep r1,r2,h2,fun r v3 H3 θ3 μ3 w3 g3 r3 h3=>?_⟩⟩⟩
 cases r with
 | bl b =>
  refine ⟨b,Vf r3,?_⟩
  have g13:=(g1.trans g2).trans g3
  cases b with
  | true =>
   exact ⟨ρ,θ3,μ3,_,s.grow w3 g13,h3,fun z v4 H4 θ4 μ4 w4 g4 r4 h4=>⟨y,z,θ4,μ4,Qd,w4,(g3.trans g4).rep r2,r4,h4,f.mono (g13.trans g4)⟩⟩
  | false=>exact (f.mono g13).at w3 Zi h3
 | _=>exact h3.elim
theorem le_and {wa wb:WE} {σ:L2.St} {H:Hp} {Q:VK} (h:LE X.K (fun ρ μ Q=>wa ρ μ fun x μ1=>wBl x μ1 fun t μ2=>if t=true then wb ρ μ2 Q else Q (.bl false) μ2) σ H Q):tAndV (LE X.K wa) (LE X.K wb) σ H Q:=by
 obtain ⟨ρ,θ,μ,Qd,s,h,f⟩:=h
 refine ⟨ρ,θ,μ,_,s,h,fun x v H1 θ1 μ1 w1 g1 r1 h1=>?_⟩
 cases x with
 | bl b =>
  refine ⟨b,Vf r1,?_⟩
  cases b with
  | true=>exact ⟨ρ,θ1,μ1,Qd,s.grow w1 g1,h1,f.mono g1⟩
  | false=>exact (f.mono g1).at w1 Zi h1
 | _=>exact h1.elim
theorem le_or {wa wb:WE} {σ:L2.St} {H:Hp} {Q:VK} (h:LE X.K (fun ρ μ Q=>wa ρ μ fun x μ1=>wBl x μ1 fun t μ2=>if t=true then Q (.bl true) μ2 else wb ρ μ2 Q) σ H Q):tOrV (LE X.K wa) (LE X.K wb) σ H Q:=by
 obtain ⟨ρ,θ,μ,Qd,s,h,f⟩:=h
 refine ⟨ρ,θ,μ,_,s,h,fun x v H1 θ1 μ1 w1 g1 r1 h1=>?_⟩
 cases x with
 | bl b =>
  refine ⟨b,Vf r1,?_⟩
  cases b with
  | false=>exact ⟨ρ,θ1,μ1,Qd,s.grow w1 g1,h1,f.mono g1⟩
  | true=>exact (f.mono g1).at w1 Zi h1
 | _=>exact h1.elim
theorem lt_and {wa wb:WT} {σ:L2.St} {H:Hp} {Q:Bool->Hp->Prop} (h:LT X.K (fun ρ μ Q=>wa ρ μ fun t μ1=>if t=true then wb ρ μ1 Q else Q false μ1) σ H Q):tAnd (LT X.K wa) (LT X.K wb) σ H Q:=by
 obtain ⟨ρ,θ,μ,Qd,s,h,f⟩:=h
 refine ⟨ρ,θ,μ,_,s,h,fun b H1 θ1 μ1 w1 g1 h1=>?_⟩
 cases b with
 | true=>exact ⟨ρ,θ1,μ1,Qd,s.grow w1 g1,h1,fun b H2 θ2 μ2 w2 g2 q=>f b H2 θ2 μ2 w2 (g1.trans g2) q⟩
 | false=>exact f false H1 θ1 μ1 w1 g1 h1
theorem lt_or {wa wb:WT} {σ:L2.St} {H:Hp} {Q:Bool->Hp->Prop} (h:LT X.K (fun ρ μ Q=>wa ρ μ fun t μ1=>if t=true then Q true μ1 else wb ρ μ1 Q) σ H Q):tOr (LT X.K wa) (LT X.K wb) σ H Q:=by
 obtain ⟨ρ,θ,μ,Qd,s,h,f⟩:=h
 refine ⟨ρ,θ,μ,_,s,h,fun b H1 θ1 μ1 w1 g1 h1=>?_⟩
 cases b with
 | false=>exact ⟨ρ,θ1,μ1,Qd,s.grow w1 g1,h1,fun b H2 θ2 μ2 w2 g2 q=>f b H2 θ2 μ2 w2 (g1.trans g2) q⟩
 | true=>exact f true H1 θ1 μ1 w1 g1 h1
theorem Xci {pins:List (Addr×Obj)} {σ:L2.St} {H:Hp} {s:Shared} {a:Addr} {kvs:List (Key×V)} (I:Inv X pins σ H s) (e:H a=some (.dK kvs)):∃ o,Inv X pins σ (upd H a (.frz o (.dK kvs))) s:=by
 have ok:ObjOk X.prog X.w H s.heap a (.dK kvs):=I.hok a _ e
 obtain ⟨hz,hs,vs,rel,o,es,ep,q1,q2⟩:=id ok
 refine ⟨o,?_⟩
 have ne:∀ {b:Addr} {u:HO},H b=some u->(∀ k,u≠.dK k)->b≠a:=fun {b u} h1 h2 z=>by subst z; rw [e] at h1; cases h1; exact h2 _ rfl
 have nn:∀ {b:Addr},H b=none->b≠a:=fun {b} h1 z=>by subst z; rw [e] at h1; cases h1
 refine ⟨I.ok,I.os,I.bare,⟨I.base.keep,I.base.slot,fun b ob q n hx=>?_,I.base.there,fun b xs q=>?_,fun b ob u q=>?_,fun b ps q=>?_⟩,I.loc,I.cell,?_,fun x c e=>?_,fun p hpp=>?_,fun b u e1=>?_,I.len,I.hh.mono fun b o u q=>by rw [Va (ne q (by simp))]; exact q⟩
 ·have:=I.base.free b ob q n hx
  rw [Va (nn this)]; exact this
 ·have:=I.base.tups b xs q
  rw [Va (ne this (by simp))]; exact this
 ·have:=I.base.frzs b ob u q
  rw [Va (ne this (by simp))]; exact this
 ·obtain ⟨more,this⟩:=I.base.tbls b ps q
  exact ⟨more,by rw [Va (ne this (by simp))]; exact this⟩
 ·rw [Va (nn I.free)]; exact I.free
 ·rw [Va (nn (I.freeC x c e))]; exact I.freeC x c e
 ·obtain ⟨q1,q2,q3,q4,q5⟩:=I.pin p hpp
  exact ⟨q1,by rw [Va (nn q2)]; exact q2,q3,q4,q5⟩
 ·have st:∀ {b:Addr} {u:HO},ObjOk X.prog X.w H s.heap b u->ObjOk X.prog X.w (upd H a (.frz o (.dK kvs))) s.heap b u:=fun {b u} h=>h.stay (fun _ _ _ q=>q) (fun c q=>by rw [Va (ne q (by simp))]; exact q) fun c xs q=>by rw [Va (ne q (by simp))]; exact q
  by_cases hb:b=a
  ·subst hb
   rw [Xb] at e1; cases e1
   exact ⟨q1,st ok⟩
  ·rw [Va hb] at e1
   exact st (I.hok b u e1)
theorem Zci {pins:List (Addr×Obj)} {σ:L2.St} {H:Hp} {s:Shared} {a:Addr} {kvs:List (Key×V)} {o:Obj} (I:Inv X pins σ H s) (e:H a=some (.frz o (.dK kvs))) (n1:∀ o u,X.H₀ a≠some (.frz o u)) (n2:∀ v,X.A.handled=some v->v≠.ref a):Inv X pins σ (upd H a (.dK kvs)) s:=by
 have ok:ObjOk X.prog X.w H s.heap a (.dK kvs):=(show ObjOk X.prog X.w H s.heap a (.frz o (.dK kvs)) from I.hok a _ e).2
 have ne:∀ {b:Addr} {u:HO},H b=some u->(∀ o k,u≠.frz o k)->b≠a:=fun {b u} h1 h2 z=>by subst z; rw [e] at h1; cases h1; exact h2 _ _ rfl
 have nn:∀ {b:Addr},H b=none->b≠a:=fun {b} h1 z=>by subst z; rw [e] at h1; cases h1
 refine ⟨I.ok,I.os,I.bare,⟨I.base.keep,I.base.slot,fun b ob q n hx=>?_,I.base.there,fun b xs q=>?_,fun b ob u q=>?_,fun b ps q=>?_⟩,I.loc,I.cell,?_,fun x c e=>?_,fun p hpp=>?_,fun b u e1=>?_,I.len,fun v q=>?_⟩
 ·have:=I.base.free b ob q n hx
  rw [Va (nn this)]; exact this
 ·have:=I.base.tups b xs q
  rw [Va (ne this (by simp))]; exact this
 ·have:=I.base.frzs b ob u q
  rw [Va (fun z=>n1 _ _ (z ▸ q))]; exact this
 ·obtain ⟨more,this⟩:=I.base.tbls b ps q
  exact ⟨more,by rw [Va (ne this (by simp))]; exact this⟩
 ·rw [Va (nn I.free)]; exact I.free
 ·rw [Va (nn (I.freeC x c e))]; exact I.freeC x c e
 ·obtain ⟨q1,q2,q3,q4,q5⟩:=I.pin p hpp
  exact ⟨q1,by rw [Va (nn q2)]; exact q2,q3,q4,q5⟩
 ·have st:∀ {b:Addr} {u:HO},ObjOk X.prog X.w H s.heap b u->ObjOk X.prog X.w (upd H a (.dK kvs)) s.heap b u:=fun {b u} h=>h.stay (fun _ _ _ q=>q) (fun c q=>by rw [Va (ne q (by simp))]; exact q) fun c xs q=>by rw [Va (ne q (by simp))]; exact q
  by_cases hb:b=a
  ·subst hb
   rw [Xb] at e1; cases e1
   exact st ok
  ·rw [Va hb] at e1
   exact st (I.hok b u e1)
 ·obtain ⟨x,o',u',vs,h1,h2,h3⟩:=I.hh v q
  refine ⟨x,o',u',vs,h1,?_,h3⟩
  have:x≠a:=fun z=>n2 v q (by rw [h1,z])
  rw [Va this]; exact h2
theorem pe_frzD {a:Expr} {wa:WE} (h:PE X a (LE X.K wa)):PE X a (LE X.K fun ρ μ Q=>wa ρ μ fun d μ1=>wFrz d μ1 Q):=fun pins s0 σ H Q I q=>by
 obtain ⟨ρ,θ,μ,Qd,s,hw,f⟩:=q
 refine thn (h pins s0 σ H (fun x H1=>∃ d θ1 μ1,WOk X.K H1 θ1 μ1/\Grow H θ μ H1 θ1 μ1/\Rp X.K H1 θ1 μ1 d x/\wFrz d μ1 Qd) I ⟨ρ,θ,μ,_,s,hw,fun d v H1 θ1 μ1 w1 g1 r1 h1=>⟨d,θ1,μ1,w1,g1,r1,h1⟩⟩) fun vv s1 ⟨v,H1,I1,rv,d,θ1,μ1,w1,g1,r1,h1⟩=>?_
 have f1:=f.mono g1
 cases d with
 | loc n =>
  simp only [wFrz] at h1
  split at h1
  ·rename_i ds hn
   obtain ⟨a,rfl,ha⟩:=Xc r1
   obtain ⟨xs,hx,rs⟩:=w1.list hn ha
   refine ⟨.ref a,H1,I1,rv,f1 (.lst ds) (.ref a) H1 θ1 (μ1.set n .gone) w1.frz Grow.frz ?_ h1⟩
   unfold Rep
   exact ⟨a,xs,rfl,hx,Vao w1 ha,Grow.frz.reps rs⟩
  ·exact h1.elim
 | _=>exact ⟨v,H1,I1,rv,f1.at w1 r1 h1⟩
theorem pe_frzT {a:Expr} {wa:WE} {i:Nat} (h:PE X a (LE X.K wa)):PE X a (LE X.K fun ρ μ Q=>match ρ[i]? with
  | some (some (.loc n))=>(match μ[n]? with
   | some (.dic ks ds)=>∀ o,wa ρ (μ.set n (.fdi o ks ds)) fun d μ1=>μ1[n]? = some (.fdi o ks ds)/\Q d (μ1.set n (.dic ks ds))
   | _=>False)
  | _=>False):=fun pins s0 σ H Q I q=>by
 obtain ⟨ρ,θ,μ,Qd,s,hw,f⟩:=q
 split at hw
 ·rename_i n hi
  split at hw
  ·rename_i ks ds hn
   obtain ⟨x,hx⟩:∃ x,θ[n]? = some x:=by
    have:n < θ.length:=by rw [s.wok.len]; exact (List.getElem?_eq_some_iff.mp hn).1
    exact ⟨_,List.getElem?_eq_getElem this⟩
   obtain ⟨kvs,h1,h2,rs⟩:=s.wok.cell n _ x hn hx
   obtain ⟨o,I2⟩:=Xci I h1
   have n1:∀ o u,X.H₀ x≠some (.frz o u):=fun o u z=>by have:=I.base.frzs x o u z; rw [h1] at this; cases this
   have n2:∀ v,X.A.handled=some v->v≠.ref x:=fun v hv z=>by
    obtain ⟨y,o',u',vs,k1,k2,_⟩:=I.hh v hv
    rw [k1] at z; cases z; rw [h1] at k2; cases k2
   have g2:Grow H θ μ (upd H x (.frz o (.dK kvs))) θ (μ.set n (.fdi o ks ds)):=Grow.write hn hx (by simp) (by simp)
   have w2:WOk X.K (upd H x (.frz o (.dK kvs))) θ (μ.set n (.fdi o ks ds)):=s.wok.write (c':=.fdi o ks ds) hn hx (by simp) (by simp) ⟨kvs,Xb,h2,g2.reps rs⟩
   refine thn (h pins s0 σ _ (fun v H1=>∃ d θ1 μ1,WOk X.K H1 θ1 μ1/\Grow (upd H x (.frz o (.dK kvs))) θ (μ.set n (.fdi o ks ds)) H1 θ1 μ1/\Rp X.K H1 θ1 μ1 d v/\μ1[n]? = some (.fdi o ks ds)/\Qd d (μ1.set n (.dic ks ds))) I2 ⟨ρ,θ,_,_,s.grow w2 g2,hw o,fun d v H1 θ1 μ1 w1 g1 r1 hq=>⟨d,θ1,μ1,w1,g1,r1,hq.1,hq.2⟩⟩) fun vv s1 ⟨v,H1,I1,rv,d,θ1,μ1,w1,g1,r1,hn1,hq⟩=>?_
   have hx1:=g1.pre n x hx
   obtain ⟨kvs',h1',h2',rs'⟩:=w1.cell n _ x hn1 hx1
   have I3:=Zci I1 h1' n1 n2
   have g3:Grow H1 θ1 μ1 (upd H1 x (.dK kvs')) θ1 (μ1.set n (.dic ks ds)):=Grow.write hn1 hx1 (by simp) (by simp)
   exact ⟨v,_,I3,rv,f d v _ θ1 _ (w1.write (c':=.dic ks ds) hn1 hx1 (by simp) (by simp) ⟨kvs',Xb,h2',g3.reps rs'⟩) ((g2.trans g1).trans g3) (g3.rep r1) hq⟩
  ·exact hw.elim
 ·exact hw.elim
theorem Xcd {x:Str} {sp:DSp} {ws:WA} {p pos:Pos} {e:Expr} {es:List Expr} (R:Vv X (.fn x) sp) (hg:Gl X x) (ha:PA X (e :: es) (LA X.K ws)) (hdb:(x == ("__debug__" : Str))=false) (hs:starEach (e :: es) X.env=(false,eval e X.env) :: starEach es X.env)
  (hpl:(backTo pos (starEach es X.env)).any (·.1)=false):PE X (.Call (.Name x p) (e :: es) [] pos) (LE X.K fun ρ μ Q=>ws ρ μ fun ds μ1=>sp ds μ1 Q):=by
 obtain ⟨fa,fd,ps,k,hm,hk,hb,F,hr⟩:=R
 refine PE.wk (pe_call F hr hg hm hk hb .nil passE ha hdb hs hpl) fun σ H Q h=>?_
 obtain ⟨ρ,θ,μ,Qd,s,h,f⟩:=h
 refine ⟨ρ,θ,μ,_,s,h,fun ds vs H1 θ1 μ1 w1 g1 r1 h1=>?_⟩
 dsimp only
 rw [List.append_nil]
 exact ⟨ds,θ1,μ1,Qd,w1,r1,h1,f.mono g1⟩
theorem Wbo {x:Str} {sp:DSp} {p pos:Pos} (R:Vv X (.fn x) sp) (hg:Gl X x) (hdb:(x == ("__debug__" : Str))=false):PE X (.Call (.Name x p) [] [] pos) (LE X.K fun ρ μ Q=>sp [] μ Q):=by
 obtain ⟨fa,fd,ps,k,hm,hk,hb,F,hr⟩:=R
 refine PE.wk (Wcd F hr hg hm hk hb .nil passE hdb) fun σ H Q h=>?_
 obtain ⟨ρ,θ,μ,Qd,s,h,f⟩:=h
 exact ⟨[],θ,μ,Qd,s.wok,Reps.nil,h,f⟩
end
theorem V0 {c:Ctx}:∀ {cap:List Nat} {cs:List Str},Zm c cap=some cs->cs.length=cap.length/\∀ (j:Nat) (y:Str),cs[j]? = some y->∃ i,cap[j]? = some i/\c.N[i]? = some y
 | [],cs,h=>by simp only [Zm,Option.some.injEq] at h; subst h; exact ⟨rfl,fun j y e=>by simp at e⟩
 | i :: is,cs,h=>by
  simp only [Zm] at h
  split at h
  ·rename_i x r e1 e2
   simp only [Option.some.injEq] at h
   subst h
   obtain ⟨h1,h2⟩:=V0 e2
   refine ⟨by simp [h1],fun j y e=>?_⟩
   cases j with
   | zero=>simp at e; subst e; exact ⟨i,rfl,e1⟩
   | succ j =>
    obtain ⟨i',a1,a2⟩:=h2 j y (by simpa using e)
    exact ⟨i',by simpa using a1,a2⟩
  ·cases h
theorem Xae {X:Cx} {c:Ctx} {scope:Scope} {xs:List Str} {cap:List Nat} {cs:List Str} (C:CtxOk X c) (h1:Zm c cap=some cs) (h:Zaz c scope (xs ++ cs) cs=true):CompTxt X xs scope (xs ++ cs) cap:=by
 simp only [Zaz,Bool.and_eq_true,List.all_eq_true] at h
 obtain ⟨⟨⟨⟨⟨k1,k2⟩,k3⟩,k5⟩,k6⟩,k7⟩:=h
 obtain ⟨hl,hg⟩:=V0 h1
 refine ⟨by simpa using k1,fun y hy hc=>?_,fun y hy hloc=>?_,of_decide_eq_true k5,fun j y e=>?_,by simp [hl],fun y hy hf=>?_⟩
 ·have:=k2 y hy
  rw [hc] at this
  simpa using this
 ·have:=k3 y hy
  rw [hloc] at this
  simpa using this
 ·have e':cs[j]? = some y:=by
   rw [List.getElem?_append_right (by omega)] at e
   simpa using e
  obtain ⟨i,a1,a2⟩:=hg j y e'
  refine ⟨i,a1,by rw [C.N]; exact a2,?_⟩
  have:=k6 y (List.mem_of_getElem? e')
  simpa using this
 ·have:=k7 y hy
  rw [hf] at this
  refine C.clo y.1 ?_
  simpa using this
theorem Ys {X:Cx} {c:Ctx} {scope:Scope} {xs:List Str} {cs:List Str} (C:CtxOk X c) (h:Zaz c scope (xs ++ cs) cs=true) (cl:List (Str×Addr)) (Ca:Addr) (s:Shared) (H:Hp) (ex:List Addr) :
  CtxOk (Vx X (xs ++ cs) scope cl Ca s H ex) (c.in_ (xs ++ cs) scope.names):=by
 simp only [Zaz,Bool.and_eq_true,List.all_eq_true] at h
 obtain ⟨⟨⟨⟨⟨k1,k2⟩,k3⟩,k5⟩,k6⟩,k7⟩:=h
 have cel:∀ y,scope.names.lookup y=some .cell->(relabel scope X.env).names.lookup y=some .cell:=fun y z=>relabel_cell z
 have lk:∀ y,scope.names.lookup y=some .local->(relabel scope X.env).names.lookup y=some .local:=fun y z=>lookup_relabel_local z
 refine ⟨rfl,of_decide_eq_true k5,fun y hy=>?_,fun y hy=>?_,fun y hy=>?_,fun y hy=>?_,fun y hy=>?_,C.blt,C.calm,C.room,PassesOwn.never⟩
 ·unfold Ctx.vis at hy
  split at hy
  ·rename_i z; exact .inl (lk y z)
  ·rename_i z; exact .inr (.inl (cel y z))
  ·rename_i z
   rcases relabel_free (env:=X.env) z with q | q
   ·exact .inr (.inr q)
   ·exact .inr (.inl q)
  ·cases hy
 ·unfold Ctx.loc at hy
  split at hy
  ·rename_i z; exact ⟨.inl (lk y z),.inr (lk y z)⟩
  ·rename_i z; exact ⟨.inr (cel y z),.inl (by show (scope.names.lookup y == some .cell)=true; rw [z]; rfl)⟩
  ·cases hy
 ·exact lk y (by simpa [isLocal] using hy)
 ·unfold Ctx.glb at hy
  split at hy
  ·rename_i z
   show (relabel scope X.env).names.lookup y=some .globalImplicit
   exact Yam z
  ·cases hy
 ·rcases hy with hy | hy
  ·exact .inl (cel y hy)
  ·exact (relabel_free (env:=X.env) hy).symm
section
variable {X:Cx}
theorem Yad {c:Ctx} (C:CtxOk X c):∀ {is:List Nat} {ts:List Expr},Vl c is ts=true->PGs X ts (Za6 is)/\(assignEach ts X.env).length=is.length/\(assignEach ts X.env).findIdx? (·.1)=none
 | [],[],_=>⟨pgs_nil,rfl,rfl⟩
 | [],_ :: _,h=>by simp [Vl] at h
 | _ :: _,[],h=>by simp [Vl] at h
 | i :: is,t :: ts,h=>by
  simp only [Vl,Bool.and_eq_true] at h
  obtain ⟨h1,h2⟩:=h
  cases t with
  | Name x p =>
   simp only [Bool.and_eq_true] at h1
   obtain ⟨k1,k2,k3⟩:=Yad C h2
   obtain ⟨l1,l2⟩:=C.loc x h1.2
   refine ⟨Ycb (Zbo (by rw [C.N]; exact C.nd) (by rw [C.N]; exact Wv h1.1) l1 l2) k1 rfl,?_,?_⟩
   ·show (assignEach ts X.env).length + 1=_
    rw [k2]; rfl
   ·show List.findIdx? (fun x=>x.1) ((false,assign (.Name x p) X.env) :: assignEach ts X.env)=none
    rw [List.findIdx?_cons]
    simp [k3]
  | _=>simp at h1
theorem Xcb {c:Ctx} (C:CtxOk X c) {is:List Nat} {tt:Bool} (hcm:tt=true->c.calm=true) {a:Expr} (h:mTg c is tt a=true):PG X a (LG X.K fun d r k=>Zq is tt d r k):=by
 cases tt with
 | false =>
  have h:Vl c is [a]=true:=h
  match is,h with
  | [i],h =>
   cases a with
   | Name x p =>
    simp only [Vl,Bool.and_eq_true] at h
    obtain ⟨⟨h1,h2⟩,_⟩:=h
    obtain ⟨l1,l2⟩:=C.loc x h2
    exact Wcb (by rw [C.N]; exact C.nd) (by rw [C.N]; exact Wv h1) l1 l2
   | _=>exact (Bool.false_ne_true h).elim
  | [],h=>simp [Vl] at h
  | _ :: _ :: _,h=>simp [Vl] at h
 | true =>
  cases a with
  | Tuple ts k p =>
   obtain ⟨k1,k2,k3⟩:=Yad C (show Vl c is ts=true from h)
   exact pg_tupD (C.calm (hcm rfl)) k1 k2 k3
  | _=>exact (Bool.false_ne_true h).elim
end
theorem tgn {tt:Bool} {a:Expr} {xs:List Str} (h:Waf tt a=some xs):tt=false->xs.length=1:=by
 rintro rfl
 cases a <;> first | (cases h; rfl) | cases h
end DW
end
section
set_option maxHeartbeats 2000000
namespace DW
open PySem PySem.Spec PyProof.Rows L2
section
variable {X:Cx}
end
end DW
end
section
set_option maxHeartbeats 2000000
namespace DW
open PySem PySem.Spec PyProof.Rows L2
section
variable {K:PySem.W.Frag} {H:Hp} {θ:List Addr} {μ:Mem} {κ κ':Type} [DecidableEq κ] [DecidableEq κ']
theorem Zx (f:κ->κ') (inj:∀ a b,f a=f b->a=b):∀ (ks:List κ) (ds:List D) (kvs:List (κ'×V)) (k:κ) (d:D),kvs.map (·.1)=ks.map f->Rps K H θ μ ds (kvs.map (·.2))->V7 ks ds k=some d->∃ v,valV kvs (f k)=some v/\Rp K H θ μ d v
 | [],ds,kvs,k,d,_,_,h=>by simp [V7] at h
 | k' :: ks,[],kvs,k,d,_,_,h=>by simp [V7] at h
 | k' :: ks,d' :: ds,[],k,d,h1,_,_=>by simp at h1
 | k' :: ks,d' :: ds,(q,v) :: kvs,k,d,h1,h2,h=>by
  simp only [List.map_cons,List.cons.injEq] at h1
  obtain ⟨rfl,h1⟩:=h1
  rw [List.map_cons] at h2
  obtain ⟨v',r,e,r1,r2⟩:=h2.cons_inv
  cases e
  simp only [V7] at h
  by_cases c:k'=k
  ·rw [if_pos c] at h; cases h
   subst c
   exact ⟨v,Z2 rfl,r1⟩
  ·rw [if_neg c] at h
   obtain ⟨w,w1,w2⟩:=Zx f inj ks ds kvs k d h1 r2 h
   exact ⟨w,by rw [W2 (fun e=>c (inj _ _ e))]; exact w1,w2⟩
theorem dput_ok (f:κ->κ') (inj:∀ a b,f a=f b->a=b) {ks:List κ} {ds:List D} {kvs:List (κ'×V)} {k:κ} {d:D} {v:V} (h1:kvs.map (·.1)=ks.map f) (h2:Rps K H θ μ ds (kvs.map (·.2))) (hd:Rp K H θ μ d v) :
  (putK kvs (f k) v).map (·.1)=(Zay ks k).map f/\Rps K H θ μ (Vax ks ds k d) ((putK kvs (f k) v).map (·.2)):=by
 have hm:=Wa4 (k:=k) f inj h1
 unfold putK Zay Vax
 by_cases c:k∈ks
 ·rw [if_pos (hm.mpr c),if_pos c,if_pos c]
  refine ⟨?_,?_⟩
  ·rw [<- h1,List.map_map]
   refine List.map_congr_left fun p _=>?_
   show (if p.1=f k then (p.1,v) else p).1=p.1
   split <;> rfl
  ·clear hm c
   induction kvs generalizing ks ds with
   | nil =>
    cases ds with
    | nil=>cases ks <;> simpa using Reps.nil
    | cons _ _=>have:=h2.length; simp at this
   | cons p kvs ih =>
    cases ks with
    | nil=>simp at h1
    | cons k' ks =>
     cases ds with
     | nil=>have:=h2.length; simp at this
     | cons d' ds =>
      simp only [List.map_cons,List.cons.injEq] at h1
      rw [List.map_cons] at h2
      obtain ⟨v',r,e,r1,r2⟩:=h2.cons_inv
      cases e
      rw [List.map_cons,List.map_cons,List.zipWith_cons_cons]
      refine Reps.cons ?_ (ih h1.2 r2)
      by_cases c:k'=k
      ·rw [if_pos c,if_pos (by rw [h1.1,c])]; exact hd
      ·rw [if_neg c,if_neg (fun e=>c (inj _ _ (h1.1.symm.trans e)))]; exact r1
 ·rw [if_neg (fun e=>c (hm.mp e)),if_neg c,if_neg c]
  refine ⟨by rw [List.map_append,List.map_append,h1]; rfl,?_⟩
  rw [List.map_append]
  exact h2.append (Reps.one hd)
end
section
variable {K:PySem.W.Frag} {H:Hp} {θ:List Addr} {μ:Mem}
end
section
variable {X:Cx}
theorem Zcd {o i:Expr} {wo wi:WE} {pos:Pos} (hu:X.A.units + 1 < cLine) (ho:PE X o (LE X.K wo)) (hi:PE X i (LE X.K wi)) (hs:Za1 i):PE X (.Subscript o i pos) (LE X.K fun ρ μ Q=>wo ρ μ fun x μ1=>wi ρ μ1 fun y μ2=>Vbh x y μ2 Q):=by
 intro pins s σ H Q I h
 refine pe_dget hu ho hi hs pins s σ H Q I ?_
 obtain ⟨ρ,θ,μ,Qd,sm,h,f⟩:=h
 refine ⟨ρ,θ,μ,_,sm,h,fun x vx H1 θ1 μ1 w1 g1 r1 h1=>⟨ρ,θ1,μ1,_,sm.grow w1 g1,h1,fun y vy H2 θ2 μ2 w2 g2 r2 h2=>?_⟩⟩
 have r1':=g2.rep r1
 unfold Vbh at h2
 split at h2
 ·rename_i n
  obtain ⟨a,rfl,ha⟩:=Xc r1'
  split at h2
  ·rename_i ks ds hn
   obtain ⟨kvs,e1,e2,e3⟩:=w2.cell n _ a hn ha
   split at h2
   ·rename_i k hk
    split at h2
    ·rename_i d hd
     obtain ⟨v,v1,v2⟩:=Zx keyOf (fun _ _=>Vm) ks ds kvs k d e2 e3 hd
     exact ⟨a,v,rfl,by rw [Y6 hk r2,<- v1]; exact DGet.k e1,f.mono (g1.trans g2) d v H2 θ2 μ2 w2 Grow.refl v2 h2⟩
    ·exact h2.elim
   ·exact h2.elim
  ·rename_i o ks ds hn
   obtain ⟨kvs,e1,e2,e3⟩:=w2.cell n _ a hn ha
   split at h2
   ·rename_i k hk
    split at h2
    ·rename_i d hd
     obtain ⟨v,v1,v2⟩:=Zx keyOf (fun _ _=>Vm) ks ds kvs k d e2 e3 hd
     exact ⟨a,v,rfl,by rw [Y6 hk r2,<- v1]; exact ⟨kvs,keyOf k,.inr ⟨o,e1⟩,rfl,rfl⟩,f.mono (g1.trans g2) d v H2 θ2 μ2 w2 Grow.refl v2 h2⟩
    ·exact h2.elim
   ·exact h2.elim
  ·exact h2.elim
 ·exact h2.elim
theorem Xbx {n:Nat} {x y v:D} {H:Hp} {θ:List Addr} {μ:Mem} {vx vy vv:V} {k:Mem->Prop} (w:WOk X.K H θ μ) (rx:Rp X.K H θ μ x vx) (ry:Rp X.K H θ μ y vy) (rv:Rp X.K H θ μ v vv) (h:Wbh x y v μ k) :
  ∃ a H4 μ4,vx = .ref a/\DPut H a vy vv H4/\WOk X.K H4 θ μ4/\Grow H θ μ H4 θ μ4/\k μ4:=by
 unfold Wbh at h
 split at h
 ·rename_i n
  obtain ⟨a,rfl,ha⟩:=Xc rx
  split at h
  ·rename_i ks ds hn
   obtain ⟨kvs,e1,e2,e3⟩:=w.cell n _ a hn ha
   split at h
   ·rename_i q hq
    have hl:kvs.length < sizeLine:=by
     have:kvs.length=ks.length:=by simpa using congrArg List.length e2
     rw [this,sizeLine_eq]; exact h.1
    have g:Grow H θ μ (upd H a (.dK (putK kvs (keyOf q) vv))) θ (μ.set n (.dic (Zay ks q) (Vax ks ds q v))):=Grow.write hn ha (by simp) (by simp)
    obtain ⟨p1,p2⟩:=dput_ok (K:=X.K) (k:=q) keyOf (fun _ _=>Vm) e2 (g.reps e3) (g.rep rv)
    have w4:WOk X.K (upd H a (.dK (putK kvs (keyOf q) vv))) θ (μ.set n (.dic (Zay ks q) (Vax ks ds q v))):=w.write (c':=.dic (Zay ks q) (Vax ks ds q v)) hn ha (by simp) (by simp) ⟨_,Xb,p1,p2⟩
    exact ⟨a,_,_,rfl,by rw [Y6 hq ry]; exact DPut.k e1 hl,w4,g,h.2⟩
   ·exact h.elim
  ·exact h.elim
 ·exact h.elim
theorem Zca {EX:L2.St->XK} {o i value:Expr} {wo wi we:WE} {pos pos':Pos} (hu:X.A.units + 1 < cLine) (ho:PE X o (LE X.K wo)) (hi:PE X i (LE X.K wi)) (hv:PE X value (LE X.K we)) (hs:swapsWith value (some (.Subscript o i pos')) pos.line X.env=pure false) :
  PS X (.Assign [.Subscript o i pos'] value pos) (LS X.K EX fun Z ρ μ=>we ρ μ fun v μ1=>wo ρ μ1 fun x μ2=>wi ρ μ2 fun y μ3=>Wbh x y v μ3 fun μ4=>Z.nx ρ μ4):=by
 intro pins s σ H D I h
 refine ps_dput hu ho hi hv hs pins s σ H D I ?_
 obtain ⟨ρ,θ,μ,Z,sm,h,f⟩:=h
 refine ⟨ρ,θ,μ,_,sm,h,fun d v H1 θ1 μ1 w1 g1 r1 h1=>⟨ρ,θ1,μ1,_,sm.grow w1 g1,h1,fun x vx H2 θ2 μ2 w2 g2 r2 h2=>⟨ρ,θ2,μ2,_,sm.grow w2 (g1.trans g2),h2,fun y vy H3 θ3 μ3 w3 g3 r3 h3=>?_⟩⟩⟩
 obtain ⟨a,H4,μ4,e,p,w4,g4,q⟩:=Xbx (n:=0) w3 (g3.rep r2) r3 ((g2.trans g3).rep r1) h3
 exact ⟨a,H4,e,p,f.nx σ H4 ρ θ3 μ4 (sm.grow w4 (((g1.trans g2).trans g3).trans g4)) (((g1.trans g2).trans g3).trans g4) q⟩
end
end DW
end
section
set_option maxHeartbeats 2000000
namespace DW
open PySem PySem.Spec PyProof.Rows L2
theorem Vbd {e:Expr} (h:Vbt e=true):∃ (q:Nat->Pos) (k7 k5 kx:Nat),e=Yv nN nF nZ nL q k7 k5 kx:=by
 unfold Vbt at h
 split at h
 ·rename_i z1 q1 n1 q2 q3 n2 q4 k7 q5 q6 l1 q7 f1 q8 q9 q10 k5 q11 q12 kx q13
  simp only [Bool.and_eq_true,beq_iff_eq] at h
  obtain ⟨⟨⟨⟨rfl,rfl⟩,rfl⟩,rfl⟩,rfl⟩:=h
  exact ⟨fun n=>match n with | 1=>q1 | 2=>q2 | 3=>q3 | 4=>q4 | 5=>q5 | 6=>q6 | 7=>q7 | 8=>q8 | 9=>q9 | 10=>q10 | 11=>q11 | 12=>q12 | _=>q13,k7,k5,kx,rfl⟩
 ·cases h
theorem Wbd {k:Keyword} (h:Yao k=true):∃ (ap lp kp:Pos) (q:Nat->Pos) (k7 k5 kx:Nat),k=⟨some (Str.ofString "key"),.Lambda (Z6 nN ap) (Yv nN nF nZ nL q k7 k5 kx) (Wg nN nF nZ nL) lp,kp⟩:=by
 obtain ⟨ar,v,kp⟩:=k
 unfold Yao at h
 rw [Bool.and_eq_true] at h
 obtain ⟨h1,h2⟩:=h
 obtain rfl:=eq_of_beq h1
 dsimp only at h2
 split at h2
 ·simp only [Bool.and_eq_true,beq_iff_eq] at h2
  obtain ⟨⟨⟨⟨⟨h3,rfl⟩,rfl⟩,rfl⟩,rfl⟩,rfl⟩:=h2
  obtain ⟨q,k7,k5,kx,rfl⟩:=Vbd h3
  exact ⟨_,_,_,q,k7,k5,kx,rfl⟩
 ·cases h2
theorem Vcj {c:Ctx} {r:E} (h:capV c r=true):∃ i j,r = .tup (.cons (.var i) (.cons (.var j) .nil))/\c.at_ i nZ=true/\c.names.lookup nZ=some .cell/\c.at_ j nF=true/\c.names.lookup nF=some .cell/\c.blts.contains nL=true:=by
 unfold capV at h
 split at h
 ·rename_i i j
  simp only [Bool.and_eq_true,beq_iff_eq] at h
  obtain ⟨⟨⟨⟨h1,h2⟩,h3⟩,h4⟩,h5⟩:=h
  exact ⟨i,j,rfl,h1,h2,h3,h4,h5⟩
 ·cases h
section
variable {X:Cx}
theorem Ya3 {K:PySem.W.Frag} {H:Hp} {θ:List Addr} {μ:Mem}:∀ is:List Int,Rps K H θ μ (is.map D.int) (is.map V.int)
 | []=>Reps.nil
 | i :: is=>Reps.cons Vd (Ya3 is)
theorem Xbo {y:Str} {l:Expr} {wl:WE} {kw:Keyword} {p pos:Pos} {i j k:Nat} (R:Vv X .lam spN) (hr:Room k X.A) (ey:y=Str.ofString "sorted") (g:Gl X y) (m:X.mg y=none) (ml:X.mg nL=none) (hl:PE X l (LE X.K wl)) (hs:starEach [l] X.env=(false,eval l X.env) :: starEach [] X.env)
  (hk:Yao kw=true) (hNz:X.N[i]? = some nZ) (hNf:X.N[j]? = some nF) (hkz:X.env.kindOf nZ=some .cell∨X.env.kindOf nZ=some .free) (hkf:X.env.kindOf nF=some .cell∨X.env.kindOf nF=some .free) :
  PE X (.Call (.Name y p) [l] [kw] pos) (LE X.K fun ρ μ Q=>wl ρ μ fun d μ1=>wE (.tup (.cons (.var i) (.cons (.var j) .nil))) ρ μ1 fun e μ2=>wKso d e μ2 Q):=by
 subst ey
 obtain ⟨ap,lp,kp,q,k7,k5,kx,rfl⟩:=Wbd hk
 obtain ⟨tc,tP,hT,hcode,hq,C,hb,hgP⟩:=R
 refine PE.wk (Xcc hr g m ml hl hs hcode C hb hgP hNz hNf hkz hkf (fun _ _ _ _ _=>rfl)) fun σ H Q h=>?_
 obtain ⟨ρ,θ,μ,Qd,sm,h,f⟩:=h
 refine ⟨ρ,θ,μ,_,sm,h,fun d v H1 θ1 μ1 w1 g1 r1 h1=>?_⟩
 simp only [wE,wEs] at h1
 cases q0:ρ[i]? with
 | none=>rw [q0] at h1; exact h1.elim
 | some o =>
  cases o with
  | none=>rw [q0] at h1; exact h1.elim
  | some ea =>
   rw [q0] at h1
   cases q9:ρ[j]? with
   | none=>rw [q9] at h1; exact h1.elim
   | some o2 =>
    cases o2 with
    | none=>rw [q9] at h1; exact h1.elim
    | some eb =>
     rw [q9] at h1
     replace h1:wKso d (.tup [ea,eb]) μ1 Qd:=h1.2
     unfold wKso at h1
     cases q1:Zf μ1 d with
     | none=>rw [q1] at h1; exact h1.elim
     | some xs =>
      rw [q1] at h1
      cases q2:We xs with
      | none=>simp only [Option.bind_some,q2] at h1
      | some is =>
       simp only [Option.bind_some,q2] at h1
       obtain ⟨h64,⟨n,hn⟩,h1⟩:=h1
       obtain ⟨la,xv,rfl,hx,rs⟩:=Xg w1 r1 q1
       cases Zu rs q2
       obtain ⟨P',hP'⟩:=w1.addr hn
       obtain ⟨tc',t,c1,c2,c3⟩:=(show CellOk X.K H1 θ1 μ1 P' .tbl from w1.cell n _ P' hn hP')
       rw [hT] at c1
       cases c1
       split at h1
       ·rename_i ma mb hab
        have hab':ea = .loc ma/\eb = .loc mb:=by simpa using hab
        obtain ⟨rfl,rfl⟩:=hab'
        obtain ⟨sz,fs,hm1,hm2,hrg,h1⟩:=h1
        obtain ⟨v,e1,e2⟩:=sm.val i _ q0
        obtain ⟨a,rfl,ha⟩:=Xc e2
        obtain ⟨v,e3,e4⟩:=sm.val j _ q9
        obtain ⟨b,rfl,hb2⟩:=Xc e4
        have ha1:=g1.pre ma a ha
        have hb1:=g1.pre mb b hb2
        obtain ⟨xa,d1,d2⟩:=w1.list hm1 ha1
        obtain ⟨xb,d3,d4⟩:=w1.list hm2 hb1
        have d2':=Zam d2
        subst d2'
        refine ⟨la,is,sz,a,b,xb,rfl,hx,h64,⟨t,c2,by rw [hq]; exact c3⟩,e1,e3,d1,d3,hrg,fun H2 q is' t' pm hq1 hq2 hk2 hP2 hq3=>?_⟩
        obtain ⟨w2,g2⟩:=wok_tbl w1 hP' hn hk2 hP2 (by rw [hq3,hq])
        refine f.mono g1 (.lst (is'.map .int)) (.ref q) H2 θ1 μ1 w2 g2 ?_ (h1 is' pm)
        unfold Rep
        exact ⟨q,_,rfl,hq2,w1.notLive hq1,Ya3 is'⟩
       ·exact h1.elim
end
end DW
end
section
set_option maxHeartbeats 4000000
namespace DW
open PySem
theorem Wax:entryFor table "enumerate.__getattribute__" = some Builtin.«object.__getattribute__»:=entryFor_alias (id':="object.__getattribute__") (by kernel_rfl) (by first | rfl | decide +kernel) (by decide +kernel) (by kernel_rfl)
theorem Xbe:typeLookup (.type "enumerate") "__getattr__" = pure none:=by rw [typeLookup_type,builtinLookup_eq_fast]; kernel_rfl
theorem en_keys:typeLookup (.type "enumerate") "keys" = pure none:=by rw [typeLookup_type,builtinLookup_eq_fast]; kernel_rfl
section
variable {prog:Program} {w:World} {A:Around} {E:Value->Shared->Prop} {s:Shared}
theorem en_miss {a:Addr} {fs:Array Value} (u:Tok) {P:PySem.Fin->Shared->Prop} (ho:s.heap.get? a=some { cls:=.type "enumerate",dict:=none,data:=.fields fs,slots:=#[] }) (hA:A.handled=none)
  (h:∀ h' tk e,Heap.NewAttrErr s.heap h' e (.ref a) "keys"->E (.ref e) { s with heap:=h',toks:=tk }) :
  wpAny (model prog w) A (Builtin.«object.__getattribute__» ⟨[.ref a,.str "keys" u],[]⟩) P E s:=by
 obtain ⟨hp,g,d,tk,os⟩:=s
 have hT:(⟨hp,g,d,tk,os⟩:Shared).TypeIs (.ref a) "enumerate":=⟨_,ho,rfl⟩
 have f1:=en_keys
 unfold Builtin.«object.__getattribute__»
 repeat (any_goals (first | assumption | wp_step))
 exact wpAny_raiseAttrError hA h (attrMsg_fits (by decide +kernel) (by size_fits))
theorem Ybw {a:Addr} {fs:Array Value} {Q:Option Value->Shared->Prop} (ho:s.heap.get? a=some { cls:=.type "enumerate",dict:=none,data:=.fields fs,slots:=#[] }) (hA:A.handled=none)
  (h:∀ h' tk,(∀ b ob,s.heap.get? b=some ob->h'.get? b=some ob)->Q none { s with heap:=h',toks:=tk }):wpAny (model prog w) A (getAttr? (.ref a) "keys") Q E s:=by
 obtain ⟨hp,g,d,tk,os⟩:=s
 have hT:(⟨hp,g,d,tk,os⟩:Shared).TypeIs (.ref a) "enumerate":=⟨_,ho,rfl⟩
 have f1:=sub_AttributeError
 have f3:=F.slot_enumerate_getattribute.lookup
 have f4:=F.slot_enumerate_getattribute.bind (.ref a)
 have f5:=Xbe
 unfold getAttr? getAttrBy? getAttrBy
 repeat (any_goals (first | assumption | ((with_reducible show wpAny _ _ (call (Value.builtin "enumerate.__getattribute__") _ _) _ _ _); refine wpAny_call_entry F.slot_enumerate_getattribute ⟨_,ho,rfl⟩ Wax (en_miss _ ho hA fun h' tk' e hx=>?_) (F.args_enumerate_getattribute_2 _ _)) | wp_step))
 obtain ⟨t',u',he⟩:=hx.there
 repeat (any_goals (first | assumption | wp_step))
 all_goals first | exact h _ _ hx.keeps | skip
theorem Wcl {a:Addr} {Q:Option Obj->Shared->Prop} (h:Q (s.heap.get? a) s):wpAny (model prog w) A (loadIfAlive a) Q E s:=fun _ _ _=>h
noncomputable def EnumG (h:Heap) (e it:Addr) (i:Nat):Prop:=(∃ old,IsEnum h e it i old) ∨
 ∃ (a:Nat) (b:Bool) (o:Obj) (z:Value),h.get? e=some { cls:=.type "enumerate",dict:=none,data:=.fields #[rawInt (a:Int),.bool b,.ref it,rawInt (i:Int),.none,z],slots:=#[] }/\h.get? a=some o/\a≠e/\a≠it
theorem Xax {e it l a:Addr} {i:Nat} {b:Bool} {items:Array Value} {x z:Value} {oa:Obj} {Q:Value->Shared->Prop} (hE:s.heap.get? e=some { cls:=.type "enumerate",dict:=none,data:=.fields #[rawInt (a:Int),.bool b,.ref it,rawInt (i:Int),.none,z],slots:=#[] })
  (hoa:s.heap.get? a=some oa) (hae:a≠e) (hai:a≠it) (hI:s.heap.IsListIter it l i) (hL:s.heap.IsList l items) (hx:items[i]? = some x) (hne:e≠it)
  (hQ:∀ h' b',h'.get? e=some { cls:=.type "enumerate",dict:=none,data:=.fields #[rawInt (a:Int),.bool b',.ref it,rawInt ((i:Int) + 1),.none,z],slots:=#[] }->h'.IsListIter it l (i + 1)->h'.get? s.heap.objs.size=some { cls:=.type "tuple",data:=.seq #[.int i s.toks,x] } ->
   (∀ c o,c≠e->c≠it->s.heap.get? c=some o->h'.get? c=some o)->Q (.ref s.heap.objs.size) { s with heap:=h',toks:=s.toks + 1 }) :
  wpAny (model prog w) A (Builtin.«enumerate.__next__» ⟨[.ref e],[]⟩) (fun fin s'=>∃ v,fin = .done (.ret v)/\Q v s') E s:=by
 obtain ⟨hp,g,d,tk,os⟩:=s
 show wpAny _ _ (field (.ref e) 2 >>= _) _ _ _
 refine wpAny_bind (wpAny_field hE rfl (x:=.ref it) rfl (wpAny_bind (wpAny_nextOf_list_item hI hL hx fun h1 hI1 hs1=>?_)))
 replace hs1:Heap.SameBut it hp h1:=hs1
 have hE1:=(hs1.2 e hne).trans hE
 show wpAny _ _ (field (.ref e) 3 >>= _) _ _ ⟨h1,g,d,tk,os⟩
 refine wpAny_bind (wpAny_field hE1 rfl (x:=rawInt i) rfl ?_)
 show wpAny _ _ (field (.ref e) 4 >>= _) _ _ ⟨h1,g,d,tk,os⟩
 refine wpAny_bind (wpAny_field hE1 rfl (x:=.none) rfl ?_)
 show wpAny _ _ (mkInt i >>= _) _ _ ⟨h1,g,d,tk,os⟩
 refine wpAny_bind (wpAny_mkInt ?_)
 show wpAny _ _ (setField (.ref e) 3 (rawInt ((i:Int) + 1)) >>= _) _ _ ⟨h1,g,d,tk + 1,os⟩
 refine wpAny_bind (wpAny_setField_rec hE1 (by simp) fun h2 hE2 hs2=>?_)
 replace hs2:Heap.SameBut e h1 h2:=hs2
 replace hE2:h2.get? e=some { cls:=.type "enumerate",dict:=none,data:=.fields #[rawInt (a:Int),.bool b,.ref it,rawInt ((i:Int) + 1),.none,z],slots:=#[] }:=hE2
 show wpAny _ _ (setField (.ref e) 4 .none >>= _) _ _ ⟨h2,g,d,tk + 1,os⟩
 refine wpAny_bind (wpAny_setField_rec hE2 (by simp) fun h3 hE3 hs3=>?_)
 replace hs3:Heap.SameBut e h2 h3:=hs3
 replace hE3:h3.get? e=some { cls:=.type "enumerate",dict:=none,data:=.fields #[rawInt (a:Int),.bool b,.ref it,rawInt ((i:Int) + 1),.none,z],slots:=#[] }:=hE3
 show wpAny _ _ (newTuple [.int i tk,x] >>= _) _ _ ⟨h3,g,d,tk + 1,os⟩
 refine wpAny_bind (wpAny_newTuple ?_)
 have hsz:h3.objs.size=hp.objs.size:=by rw [hs3.1,hs2.1,hs1.1]
 have hE4:(h3.push { cls:=.type "tuple",data:=.seq #[.int i tk,x] }).get? e=_:=Heap.get?_push_of_some _ hE3
 have hT4:(h3.push { cls:=.type "tuple",data:=.seq #[.int i tk,x] }).get? hp.objs.size=some { cls:=.type "tuple",data:=.seq #[.int i tk,x] }:=by rw [<- hsz]; exact Heap.get?_push_size _ rfl
 have hk4:∀ c o,c≠e->c≠it->hp.get? c=some o->(h3.push { cls:=.type "tuple",data:=.seq #[.int i tk,x] }).get? c=some o:=fun c o n1 n2 q=>Heap.get?_push_of_some _ (hs3.extBut c o n1 (hs2.extBut c o n1 (hs1.extBut c o n2 q)))
 have hI4:(h3.push { cls:=.type "tuple",data:=.seq #[.int i tk,x] }).IsListIter it l (i + 1):=by
  obtain ⟨o,ho,r⟩:=(hI1.extBut hs2.extBut (Ne.symm hne)).extBut hs3.extBut (Ne.symm hne)
  exact ⟨o,Heap.get?_push_of_some _ ho,r⟩
 have hel:e < hp.objs.size:=Heap.lt_size hE
 have hoa4:=hk4 a oa hae hai hoa
 rw [hsz]
 generalize h3.push { cls:=.type "tuple",data:=.seq #[.int i tk,x] }=h4 at hE4 hT4 hk4 hI4 hoa4
 show wpAny _ _ (Builtin.SmallTypes.ownedTupleIsFree (.ref e) >>= _) _ _ ⟨h4,g,d,tk + 1,os⟩
 refine wpAny_bind ?_
 unfold Builtin.SmallTypes.ownedTupleIsFree
 refine wpAny_bind (wpAny_field hE4 rfl (x:=rawInt (a:Int)) rfl ?_)
 show wpAny _ _ (loadIfAlive a >>= _) _ _ _
 refine wpAny_bind (Wcl ?_)
 show wpAny _ _ (if (h4.get? a).isNone=true then _ else _) _ _ _
 rw [hoa4,if_neg (by simp)]
 refine wpAny_bind (wpAny_field hE4 rfl (x:=.bool b) rfl ?_)
 have fin:∀ h' b',h'.get? e=some { cls:=.type "enumerate",dict:=none,data:=.fields #[rawInt (a:Int),.bool b',.ref it,rawInt ((i:Int) + 1),.none,z],slots:=#[] }->Heap.SameBut e h4 h'->Q (.ref hp.objs.size) ⟨h',g,d,tk + 1,os⟩:=fun h' b' q sb =>
  hQ h' b' q (hI4.extBut sb.extBut (Ne.symm hne)) (sb.extBut _ _ (Nat.ne_of_gt hel) hT4) fun c o n1 n2 q'=>sb.extBut c o n1 (hk4 c o n1 n2 q')
 cases b with
 | true=>exact wpAny_pure (wpAny_pure ⟨_,rfl,fin h4 true hE4 (Heap.SameBut.refl _ _)⟩)
 | false =>
  show wpAny _ _ (setField (.ref e) 1 (.bool true) >>= _) _ _ _
  exact wpAny_bind (wpAny_setField_rec hE4 (by simp) fun h5 hE5 hs5=>wpAny_pure (wpAny_pure ⟨_,rfl,fin h5 true hE5 hs5⟩))
theorem en_next {e it l:Addr} {i:Nat} {items:Array Value} {x:Value} {Q:Option Value->Shared->Prop} (hG:EnumG s.heap e it i) (hI:s.heap.IsListIter it l i) (hL:s.heap.IsList l items) (hx:items[i]? = some x) (hne:e≠it)
  (hQ:∀ h',EnumG h' e it (i + 1)->h'.IsListIter it l (i + 1)->h'.get? s.heap.objs.size=some { cls:=.type "tuple",data:=.seq #[.int i s.toks,x] }->(∀ c o,c≠e->c≠it->s.heap.get? c=some o->h'.get? c=some o)->Q (some (.ref s.heap.objs.size)) { s with heap:=h',toks:=s.toks + 1 }) :
  wpAny (model prog w) A (pyNext (.ref e)) Q E s:=by
 rcases hG with ⟨old,hE⟩ | ⟨a,b,o,z,hE,hoa,hae,hai⟩
 ·have hel:e < s.heap.objs.size:=Heap.lt_size hE
  have hil:it < s.heap.objs.size:=by obtain ⟨_,q,_⟩:=hI; exact Heap.lt_size q
  exact wpAny_pyNext_enum_item hE hI hL hx hne fun h' q1 q2 q3 q4 q5=>hQ h' (.inr ⟨s.heap.objs.size,false,_,x,q1,q3,Nat.ne_of_gt hel,Nat.ne_of_gt hil⟩) q2 q3 q5
 ·have hT:s.TypeIs (.ref e) "enumerate":=⟨_,hE,rfl⟩
  unfold pyNext
  exact wpAny_bind (wpAny_attempt (wpAny_callSpecial?_slot (name:=Str.ofString "__next__") hT F.slot_enumerate_next (wpAny_call_entry F.slot_enumerate_next hT F.entry_enumerate_next
   (Xax hE hoa hae hai hI hL hx hne fun h' b' q1 q2 q3 q4=>wpAny_pure (hQ h' (.inr ⟨a,b',o,z,q1,q4 a o hae hai hoa,hae,hai⟩) q2 q3 q4)) (F.args_enumerate_next_1 _))))
theorem en_end {e it l:Addr} {i:Nat} {items:Array Value} {Q:Option Value->Shared->Prop} (hA:A.handled=none) (hG:EnumG s.heap e it i) (hI:s.heap.IsListIter it l i) (hL:s.heap.IsList l items) (hx:items[i]? = none)
  (hQ:∀ h',Heap.ExtBut it s.heap h'->Q none { s with heap:=h' }):wpAny (model prog w) A (pyNext (.ref e)) Q E s:=by
 rcases hG with ⟨old,hE⟩ | ⟨a,b,o,z,hE,hoa,hae,hai⟩
 ·exact wpAny_pyNext_enum_end hA hE hI hL hx hQ
 ·have hT:s.TypeIs (.ref e) "enumerate":=⟨_,hE,rfl⟩
  unfold pyNext
  refine wpAny_bind (wpAny_attempt (wpAny_callSpecial?_slot (name:=Str.ofString "__next__") hT F.slot_enumerate_next (wpAny_call_entry F.slot_enumerate_next hT F.entry_enumerate_next ?_ (F.args_enumerate_next_1 _))))
  show wpAny _ _ (field (.ref e) 2 >>= _) _ _ _
  refine wpAny_bind (wpAny_field hE rfl (x:=.ref it) rfl (wpAny_bind (wpAny_nextOf_list_end hA hI hL hx fun h' x he' hx'=>?_)))
  obtain ⟨ox,hox,hcx⟩:=hx'
  exact wpAny_bind (wpAny_isInstance (T:="StopIteration") (b:=true) ⟨ox,hox,hcx⟩ isSubtype_stop (wpAny_pure (hQ _ he')))
theorem Xad:entryFor table "dict.update.loop" = some Builtin.«dict.update.loop»:=entryFor_of_tree (by kernel_rfl)
theorem Vr:plainId "dict.update.loop" = true:=by decide +kernel
theorem en_loop {K:Type} [DecidableEq K] {knd:KeyKind prog w K} (emb:Nat->K) (hemb:∀ i j,emb i=emb j->i=j) (hkey:∀ (i:Nat) t,knd.is (emb i) (.int (i:Int) t)=true) {e it l dd:Addr} {items:Array Value} (hA:A.handled=none) (hne:e≠it) (hde:dd≠e) (hdi:dd≠it) (hdl:dd≠l) (hle:l≠e) (hli:l≠it) (hz:items.size<=sizeLine) {R:Result->Shared->Prop} :
  ∀ (k i:Nat) (s:Shared) (j:Tok),items.size - i=k->i<=items.size->EnumG s.heap e it i->s.heap.IsListIter it l i->s.heap.IsList l items->s.heap.DictOf knd dd ((List.range i).map fun n=>(emb n,items.getD n .none)) ->
   (∀ h' tk,h'.DictOf knd dd ((List.range items.size).map fun n=>(emb n,items.getD n .none))->(∀ c o,c≠e->c≠it->c≠dd->s.heap.get? c=some o->h'.get? c=some o)->R (.ok (.ret .none)) { s with heap:=h',toks:=tk }) ->
   codeAny (model prog w) A (.builtin "dict.update.loop" ⟨[.ref dd,.ref e,.int i j,.none],[]⟩) R s:=by
 intro k
 induction k with
 | zero =>
  intro i s j hk hi hG hI hL hD hR
  have hin:i=items.size:=by omega
  subst hin
  refine codeAny_builtin Xad ?_
  rw [Around.under_plainId Vr _]
  show wpAny _ A.in1 (pyNext (.ref e) >>= _) _ _ s
  refine wpAny_bind (en_end (A:=A.in1) hA hG hI hL (by simp) fun h' hx=>?_)
  show wpAny _ A.in1 (ret Value.none) _ _ _
  exact wpAny_pure (hR h' s.toks (by obtain ⟨o,es,ep,ho,r⟩:=hD; exact ⟨o,es,ep,hx dd o hdi ho,r⟩) fun c o n1 n2 n3 q=>hx c o n2 q)
 | succ k ih =>
  intro i s j hk hi hG hI hL hD hR
  have hlt:i < items.size:=by omega
  have hx:items[i]? = some items[i]:=Array.getElem?_eq_getElem hlt
  refine codeAny_builtin Xad ?_
  rw [Around.under_plainId Vr _]
  show wpAny _ A.in1 (pyNext (.ref e) >>= _) _ _ s
  refine wpAny_bind (en_next (A:=A.in1) hG hI hL hx hne fun h' hG' hI' hT' hk'=>?_)
  have hlT:l < s.heap.objs.size:=by obtain ⟨_,q,_⟩:=hL; exact Heap.lt_size q
  have hdT:dd < s.heap.objs.size:=by obtain ⟨_,_,_,q,_⟩:=hD; exact Heap.lt_size q
  have heT:e < s.heap.objs.size:=by
   rcases hG with ⟨_,q⟩ | ⟨_,_,_,_,q,_⟩
   ·exact Heap.lt_size q
   ·exact Heap.lt_size q
  have hiT:it < s.heap.objs.size:=by obtain ⟨_,q,_⟩:=hI; exact Heap.lt_size q
  have hD':h'.DictOf knd dd ((List.range i).map fun n=>(emb n,items.getD n .none)):=by
   obtain ⟨o,es,ep,q,r⟩:=hD
   exact ⟨o,es,ep,hk' dd o hde hdi q,r⟩
  have hst:stored ((List.range i).map fun n=>(emb n,items.getD n Value.none)) (emb i) items[i]=(List.range (i + 1)).map fun n=>(emb n,items.getD n Value.none):=by
   unfold stored
   rw [if_neg,List.range_succ,List.map_append]
   ·simp [hlt]
   ·simp only [List.any_map,List.any_eq_true,List.mem_range,Function.comp_apply,decide_eq_true_eq,not_exists,not_and]
    intro n hn q
    have:=hemb _ _ q
    omega
  show wpAny _ A.in1 (holding [Value.ref s.heap.objs.size] _ >>= _) _ _ _
  refine wpAny_bind (wpAny_holding (wpAny_bind (wpAny_tryCatch ?_)))
  unfold Builtin.Dict.pairItems
  refine wpAny_bind (wpAny_typeOf (T:="tuple") ⟨_,hT',rfl⟩ ?_)
  rw [if_pos (by decide)]
  refine wpAny_bind (wpAny_seqItems hT' rfl (wpAny_pure ?_))
  show wpAny _ A.in1 (holding [Value.int (i:Int) s.toks,items[i]] (dictSet dd (.int (i:Int) s.toks) items[i])) _ _ _
  refine wpAny_holding (wpAny_dictSet_pairs (hkey i _) hD' (fun h2 q1 q2=>?_) (by simp only [List.length_map,List.length_range]; omega))
  rw [hst] at q1
  have tr:∀ c o,c≠dd->h'.get? c=some o->h2.get? c=some o:=fun c o n q=>(q2.2 c n).trans q
  refine wpAny_pure ⟨plainId_quiet Vr _,?_⟩
  refine ih (i + 1) _ _ (by omega) hlt ?_ (hI'.at fun o q=>tr it o (Ne.symm hdi) q) (hL.at fun o q=>tr l o (Ne.symm hdl) (hk' l o hle hli q)) q1 fun h3 tk q3 q4=>hR h3 tk q3 fun c o n1 n2 n3 q=>q4 c o n1 n2 n3 (tr c o n3 (hk' c o n1 n2 q))
  rcases hG' with ⟨old,q⟩ | ⟨a,b,o,z,q,qa,n1,n2⟩
  ·exact .inl ⟨old,tr e _ (Ne.symm hde) q⟩
  ·by_cases hd:a=dd
   ·obtain ⟨o',_,_,qd,_⟩:=q1
    exact .inr ⟨a,b,o',z,tr e _ (Ne.symm hde) q,by rw [hd]; exact qd,n1,n2⟩
   ·exact .inr ⟨a,b,o,z,tr e _ (Ne.symm hde) q,tr a o hd qa,n1,n2⟩
theorem Zbw {h:Heap} {e it:Addr} {i:Nat} (hG:EnumG h e it i):∃ fs:Array Value,h.get? e=some { cls:=.type "enumerate",dict:=none,data:=.fields fs,slots:=#[] }:=by
 rcases hG with ⟨_,q⟩ | ⟨_,_,_,_,q,_⟩
 ·exact ⟨_,q⟩
 ·exact ⟨_,q⟩
theorem EnumG.kept {h h':Heap} {e it:Addr} {i:Nat} (hG:EnumG h e it i) (k:∀ c o,h.get? c=some o->h'.get? c=some o):EnumG h' e it i:=by
 rcases hG with ⟨old,q⟩ | ⟨a,b,o,z,q,qa,r⟩
 ·exact .inl ⟨old,k _ _ q⟩
 ·exact .inr ⟨a,b,o,z,k _ _ q,k _ _ qa,r⟩
theorem en_iter {e it:Addr} {i:Nat} {Q:Value->Shared->Prop} (hG:EnumG s.heap e it i) (h:Q (.ref e) s):wpAny (model prog w) A (pyIter (.ref e)) Q E s:=by
 rcases hG with ⟨old,q⟩ | ⟨a,b,o,z,q,_⟩
 ·exact wpAny_pyIter_enum q h
 ·have hT:s.TypeIs (.ref e) "enumerate":=⟨_,q,rfl⟩
  refine wpAny_pyIter_slot hT F.slot_enumerate_iter (wpAny_call_entry F.slot_enumerate_iter hT F.entry_enumerate_iter ?_ (F.args_enumerate_iter_1 _))
  exact wpAny_pure ⟨_,rfl,"enumerate",_,hT,F.slot_enumerate_next.lookup,h⟩
theorem Yaa {K:Type} [DecidableEq K] {knd:KeyKind prog w K} (emb:Nat->K) (hemb:∀ i j,emb i=emb j->i=j) (hkey:∀ (i:Nat) t,knd.is (emb i) (.int (i:Int) t)=true) {e it l:Addr} {items:Array Value} {Q:Value->Shared->Prop} (hA:A.handled=none) (hne:e≠it) (hle:l≠e) (hli:l≠it) (hz:items.size<=sizeLine)
  (hG:EnumG s.heap e it 0) (hI:s.heap.IsListIter it l 0) (hL:s.heap.IsList l items)
  (h:∀ h' tk,h'.DictOf knd s.heap.objs.size ((List.range items.size).map fun n=>(emb n,items.getD n .none))->(∀ c o,c≠e->c≠it->s.heap.get? c=some o->h'.get? c=some o)->Q (.ref s.heap.objs.size) { s with heap:=h',toks:=tk }) :
  wpAny (model prog w) A (call (.type "dict") [.ref e]) Q E s:=by
 refine callType_codes (Q₁:=fun obj s₁=>obj = .ref s.heap.objs.size/\s₁={ s with heap:=s.heap.push { cls:=.type "dict",data:=.dict #[] } }) F.kt_called_dict (F.kt_typeCall_dict_1 _) F.entry_dict_init (kt_code_dict_new _ ⟨rfl,rfl⟩) ?_
 rintro obj s₁ ⟨rfl,rfl⟩
 have hnew:(s.heap.push { cls:=.type "dict",data:=.dict #[] }).DictOf knd s.heap.objs.size []:=Heap.DictOf.new s.heap
 have kp:∀ c o,s.heap.get? c=some o->(s.heap.push { cls:=.type "dict",data:=.dict #[] }).get? c=some o:=fun c o q=>Heap.get?_push_of_some _ q
 have heT:e < s.heap.objs.size:=by obtain ⟨_,q⟩:=Zbw hG; exact Heap.lt_size q
 have hiT:it < s.heap.objs.size:=by obtain ⟨_,q,_⟩:=hI; exact Heap.lt_size q
 have hlT:l < s.heap.objs.size:=by obtain ⟨_,q,_⟩:=hL; exact Heap.lt_size q
 obtain ⟨fs,ho⟩:=Zbw (hG.kept kp)
 refine ⟨hnew.typeIs,F.args_dict_init_2 _ _,?_⟩
 unfold Builtin.«dict.__init__»
 refine wpAny_bind ?_
 unfold Builtin.Dict.selfAndRest
 refine wpAny_bind (wpAny_notOrdered_dict hnew.typeIs ?_)
 show wpAny _ _ (pure (s.heap.objs.size,[Value.ref e])) _ _ _
 refine wpAny_pure ?_
 show wpAny _ _ (Builtin.Dict.updateFrom "dict.__init__" s.heap.objs.size (.ref e) [] .none) _ _ _
 unfold Builtin.Dict.updateFrom
 refine wpAny_bind (wpAny_typeOf (T:="enumerate") ⟨_,ho,rfl⟩ ?_)
 rw [if_pos (by decide)]
 refine wpAny_bind (Ybw ho (by exact hA) fun h1 tk1 k1=>?_)
 rw [if_pos (show (none:Option Value).isNone=true from rfl)]
 refine wpAny_bind (wpAny_rule (wpAny_bind ?_))
 have hG1:=(hG.kept kp).kept k1
 refine en_iter hG1 (wpAny_pure ?_)
 refine ⟨plainId_quiet Vr _,en_loop emb hemb hkey (A:=A.in1) hA hne (Nat.ne_of_gt heT) (Nat.ne_of_gt hiT) (Nat.ne_of_gt hlT) hle hli hz items.size 0 _ 0 (by omega) (Nat.zero_le _) hG1 ((hI.at fun o q=>kp it o q).at fun o q=>k1 it o q) ((hL.at fun o q=>kp l o q).at fun o q=>k1 l o q) ?_ fun h' tk q1 q2=>?_⟩
 ·obtain ⟨o,es,ep,q,r⟩:=hnew
  exact ⟨o,es,ep,k1 _ o q,r⟩
 ·exact ⟨rfl,h h' tk q1 fun c o n1 n2 q=>q2 c o n1 n2 (Nat.ne_of_lt (Heap.lt_size q)) (k1 c o (kp c o q))⟩
end
end DW
end
section
set_option maxHeartbeats 2000000
namespace DW
open PySem PySem.Spec PyProof.Rows L2
theorem Wbf:bootBuiltins (Str.ofString "dict")=some (.type "dict"):=by decide +kernel
noncomputable def enK (k:Nat):List V->List (Key×V)
 | []=>[]
 | x :: xs=>(.inl (k:Int),x) :: enK (k + 1) xs
theorem Xbw:∀ (xs:List V) (k:Nat),(enK k xs).length=xs.length
 | [],_=>rfl
 | _ :: xs,k=>by simp [enK,Xbw xs (k + 1)]
theorem enK_KV:∀ (xs:List V) (us:List Value) (k:Nat),Vals xs us->KV (enK k xs) ((List.range' k us.length).map fun (n:Nat)=>((Sum.inl (n:Int):Key),us.getD (n - k) Value.none))
 | _,_,k,.nil=>.nil
 | x :: xs,u :: us,k,.cons r rs=>by
  rw [List.length_cons,List.range'_succ,List.map_cons]
  refine .cons ⟨rfl,by simpa using r⟩ ?_
  have e:((List.range' (k + 1) us.length).map fun (n:Nat)=>((Sum.inl (n:Int):Key),(u :: us).getD (n - k) Value.none))=(List.range' (k + 1) us.length).map fun (n:Nat)=>((Sum.inl (n:Int):Key),us.getD (n - (k + 1)) Value.none):=by
   refine List.map_congr_left fun n hn=>?_
   have h1:k + 1<=n:=(List.mem_range'_1.mp hn).1
   obtain ⟨m,rfl⟩:∃ m,n=k + 1 + m:=⟨n - (k + 1),by omega⟩
   rw [show k + 1 + m - k=m + 1 by omega,show k + 1 + m - (k + 1)=m by omega]
   simp
  rw [e]
  exact enK_KV xs us (k + 1) rs
section
variable {X:Cx}
noncomputable def DenR (X:Cx) (Q:VK) (x:V) (H1:Hp):Prop:=∃ a xs,x = .ref a/\SqL X.K H1 a xs/\∀ dd,H1 dd=none->Q (.ref dd) (upd H1 dd (.dK (enK 0 xs)))
theorem pe_den {l:Expr} {tl:TE} {y z:Str} {p p2 pos pos2:Pos} (hc:X.calm=true) (ey:y=Str.ofString "dict") (ez:z=Str.ofString "enumerate") (g1:Gl X y) (g2:Gl X z) (m1:X.mg y=none) (m2:X.mg z=none) (hl:PE X l tl) (hs:starEach [l] X.env=(false,eval l X.env) :: starEach [] X.env) :
  PE X (.Call (.Name y p) [.Call (.Name z p2) [l] [] pos2] [] pos) (fun σ H Q=>tl σ H (DenR X Q)):=by
 subst ey ez
 intro pins s σ H Q I h
 refine wpAny_Call_Name_kw (Vt I g1 m1 Wbf ?_ (by decide +kernel) (by decide +kernel))
 refine PyProof.Rows.callWith_type1 ?_ rfl rfl
 show wpAny _ _ (spliced ((false,eval (.Call (.Name (Str.ofString "enumerate") p2) [l] [] pos2) X.env) :: backTo pos (starEach [] X.env))) _ _ s
 refine Calls.spliced_cons (wpAny_Call_Name_kw (Vt I g2 m2 Xaq ?_ (by decide +kernel) (by decide +kernel)))
 have hP:PA X [l] (Z9 tl tNil):=Yl hl Zw hs
 refine PyProof.Rows.callWith_type1 (thn (hP pos2 pins s σ H (one1 (DenR X Q)) I h) fun us s1 ⟨vs,H1,I1,r1,q1⟩=>?_) hs rfl
 obtain ⟨x,rfl,a,xs,rfl,hq,q⟩:=Wag q1
 obtain ⟨u,rfl,ru⟩:∃ u,us=[u]/\RelV (.ref a) u:=by
  cases r1 with
  | cons a b=>cases b; exact ⟨_,rfl,a⟩
 cases ru
 obtain ⟨its,rv,pl,hz⟩:=I1.list hq
 have hL:=PySem.PlainL.isList pl
 have haT:a < s1.heap.objs.size:=pl.lt
 refine call_enumerate_list hL fun h' e1 e2 e3 e4=>Calls.spliced_nil ?_
 have big:sysModules < s1.heap.objs.size:=I1.big
 refine Yaa (s:={ s1 with heap:=h' }) (K:=Key) (knd:=Xe X.prog X.w) (fun n=>.inl (n:Int)) (fun i j e=>by injection e with e; exact Int.ofNat.inj e) (fun i t=>by simp [Xe,Vah,Value.isInt]) (e:=s1.heap.objs.size + 1) (it:=s1.heap.objs.size) (l:=a) (items:=its.toArray) (I1.ok.hd hc) (Nat.succ_ne_self _) (Nat.ne_of_lt (Nat.lt_succ_of_lt haT)) (Nat.ne_of_lt haT) (by rw [List.size_toArray,<- rv.length]; exact hz) (.inl ⟨_,e1⟩) e2 (hL.at fun o z=>e4 a o z) fun h2 tk d1 d2=>?_
 have kp:∀ c o,s1.heap.get? c=some o->h2.get? c=some o:=fun c o z=>by
  have:=Heap.lt_size z
  exact d2 c o (Nat.ne_of_lt (Nat.lt_succ_of_lt this)) (Nat.ne_of_lt this) (e4 c o z)
 have hdd:s1.heap.objs.size<=h'.objs.size:=by rw [e3]; omega
 have d1:h2.DictOf (Xe X.prog X.w) h'.objs.size ((List.range its.length).map fun (n:Nat)=>((Sum.inl (n:Int):Key),its.getD n Value.none)):=by
  have:(List.range its.toArray.size).map (fun (n:Nat)=>((Sum.inl (n:Int):Key),its.toArray.getD n Value.none))=(List.range its.length).map fun (n:Nat)=>((Sum.inl (n:Int):Key),its.getD n Value.none):=by
   rw [List.size_toArray]
   refine List.map_congr_left fun n _=>?_
   simp
  rw [<- this]; exact d1
 have kv:=enK_KV xs its 0 rv
 rw [<- List.range_eq_range'] at kv
 simp only [Nat.sub_zero] at kv
 refine ⟨.ref h'.objs.size,_,I1.laid (a:=h'.objs.size) (o:=.dK (enK 0 xs)) (t':=tk) kp hdd (Wbx (by rw [Xbw]; exact hz) (beq_eq_false_iff_ne.mpr (Ne.symm (Nat.ne_of_lt (Nat.lt_of_lt_of_le big hdd)))) kv d1),rfl,q _ (I1.hok.fresh hdd)⟩
theorem Wa6:∀ (xs:List V) (k:Nat),(enK k xs).map (·.1)=(List.range' k xs.length).map fun (n:Nat)=>(Sum.inl (n:Int):Key)
 | [],_=>rfl
 | _ :: xs,k=>by rw [List.length_cons,List.range'_succ]; simp [enK,Wa6 xs (k + 1)]
theorem Xa6:∀ (xs:List V) (k:Nat),(enK k xs).map (·.2)=xs
 | [],_=>rfl
 | _ :: xs,k=>by simp [enK,Xa6 xs (k + 1)]
theorem Xbd {r:E} (h:Xbt r=true):r = .cst .non:=by
 cases r with
 | cst d=>cases d with
  | non=>rfl
  | _=>exact (Bool.false_ne_true h).elim
 | _=>exact (Bool.false_ne_true h).elim
theorem pe_denD {l:Expr} {wl:WE} {y z:Str} {p p2 pos pos2:Pos} (hc:X.calm=true) (ey:y=Str.ofString "dict") (ez:z=Str.ofString "enumerate") (g1:Gl X y) (g2:Gl X z) (m1:X.mg y=none) (m2:X.mg z=none) (hl:PE X l (LE X.K wl)) (hs:starEach [l] X.env=(false,eval l X.env) :: starEach [] X.env) :
  PE X (.Call (.Name y p) [.Call (.Name z p2) [l] [] pos2] [] pos) (LE X.K fun ρ μ Q=>wl ρ μ fun d μ1=>wDen d μ1 Q):=by
 refine PE.wk (pe_den hc ey ez g1 g2 m1 m2 hl hs) fun σ H Q h=>?_
 obtain ⟨ρ,θ,μ,Qd,sm,h,f⟩:=h
 refine ⟨ρ,θ,μ,_,sm,h,fun d v H1 θ1 μ1 w1 g1 r1 h1=>?_⟩
 unfold wDen at h1
 cases q:Zf μ1 d with
 | none=>rw [q] at h1; exact h1.elim
 | some ds =>
  rw [q] at h1
  obtain ⟨a,xs,rfl,hx,rs⟩:=Xg w1 r1 q
  refine ⟨a,xs,rfl,hx,fun dd hdd=>?_⟩
  have g:Grow H1 θ1 μ1 (upd H1 dd (.dK (enK 0 xs))) (θ1 ++ [dd]) (μ1 ++ [Cell.dic ((List.range ds.length).map fun (n:Nat)=>Sum.inl (n:Int)) ds]):=Grow.new w1 hdd
  refine f.mono g1 (.loc μ1.length) (.ref dd) _ (θ1 ++ [dd]) _ (w1.new (c:=.dic ((List.range ds.length).map fun (n:Nat)=>Sum.inl (n:Int)) ds) hdd (show CellOk X.K _ _ _ dd (.dic _ ds) from ⟨enK 0 xs,Xb,?_,?_⟩)) g ?_ h1
  ·rw [Wa6,<- List.range_eq_range',rs.length,List.map_map]
   rfl
  ·rw [Xa6]; exact g.reps rs
  ·unfold Rep
   exact ⟨dd,rfl,by rw [<- w1.len]; simp⟩
end
end DW
end
section
set_option maxHeartbeats 2000000
namespace DW
open PySem PySem.Spec PyProof.Rows L2 PySem.SeqAt
section
variable {X:Cx}
theorem vals_ints:∀ {ns:List Int} {its:List Value},Vals (ns.map V.int) its->IntsAre its ns
 | [],its,h=>by cases h; exact .nil
 | n :: ns,its,h=>by
  cases h with
  | cons r rr=>obtain ⟨t,rfl⟩:=r; exact .cons n t (vals_ints rr)
theorem Vbw {K:PySem.W.Frag} {H:Hp} {θ:List Addr} {μ:Mem} {q:DKey}:∀ {ks:List DKey} {ds:List D} {kvs:List (Key×V)},kvs.map (·.1)=ks.map keyOf->Rps K H θ μ ds (kvs.map (·.2)) ->
  (Xz kvs (keyOf q)).map (·.1)=(Xu ks q).map keyOf/\Rps K H θ μ (Yu ks ds q) ((Xz kvs (keyOf q)).map (·.2))
 | ks,ds,[],h1,h2=>by
  have e1:ks=[]:=by simpa using h1.symm
  have e2:ds=[]:=by have:=h2.length; simpa using this
  subst e1 e2
  exact ⟨rfl,Reps.nil⟩
 | [],ds,kv :: kvs,h1,h2=>by simp at h1
 | k :: ks,[],kv :: kvs,h1,h2=>by have:=h2.length; simp at this
 | k :: ks,d :: ds,kv :: kvs,h1,h2=>by
  simp only [List.map_cons,List.cons.injEq] at h1
  rw [List.map_cons] at h2
  obtain ⟨v',r,e,r1,r2⟩:=h2.cons_inv
  cases e
  obtain ⟨i1,i2⟩:=Vbw (q:=q) h1.2 r2
  by_cases c:k=q
  ·have e:Xz (kv :: kvs) (keyOf q)=Xz kvs (keyOf q):=by simp [Xz,h1.1,c]
   rw [e]
   simp only [Xu,Yu,if_pos c]
   exact ⟨i1,i2⟩
  ·have ne:¬ kv.1=keyOf q:=fun z=>c (Vm (h1.1.symm.trans z))
   have e:Xz (kv :: kvs) (keyOf q)=kv :: Xz kvs (keyOf q):=by simp [Xz,ne]
   rw [e]
   simp only [Xu,Yu,if_neg c,List.map_cons]
   exact ⟨by rw [i1,h1.1],Reps.cons r1 i2⟩
theorem sqm_pop:MtR X "dict.pop" (lowM X.K (wSqm "pop")):=by
 intro pins s σ H x vs v us Q I rx rv h
 obtain ⟨d,e,θ,μ,Qd,wk,rd,re,hw,f⟩:=h
 simp only [wSqm,if_true,String.reduceEq,if_false] at hw
 unfold wDpo at hw
 split at hw
 ·rename_i n
  obtain ⟨a,rfl,ha⟩:=Xc rd
  cases rx
  split at hw
  ·rename_i ks ds hn
   obtain ⟨kvs,e1,e2,e3⟩:=wk.cell n _ a hn ha
   split at hw
   ·rename_i k
    obtain ⟨y1,r,rfl,r1,r2⟩:=re.cons_inv
    cases r2.nil_inv
    obtain ⟨u1,rfl,ru⟩:=rv.one
    split at hw
    ·rename_i q hq
     have ey:=Y6 hq r1
     subst ey
     split at hw
     ·rename_i dd l
      obtain ⟨v,v1,v2⟩:=Zx keyOf (fun _ _=>Vm) ks ds kvs q dd e2 e3 l
      refine d_pop I e1 ru v1 (.inl rfl) fun w' s' I' rw'=>⟨v,_,I',rw',?_⟩
      have g:Grow H θ μ (upd H a (.dK (Xz kvs (keyOf q)))) θ (μ.set n (.dic (Xu ks q) (Yu ks ds q))):=Grow.write hn ha (by simp) (by simp)
      obtain ⟨p1,p2⟩:=Vbw (K:=X.K) (q:=q) e2 (g.reps e3)
      exact f dd v _ θ _ (wk.write (c':=.dic (Xu ks q) (Yu ks ds q)) hn ha (by simp) (by simp) ⟨_,Xb,p1,p2⟩) g (g.rep v2) hw
     ·exact hw.elim
    ·exact hw.elim
   ·exact hw.elim
  ·exact hw.elim
 ·exact hw.elim
theorem isDc_ty {K:PySem.W.Frag} {H:Hp} {θ:List Addr} {μ:Mem} {d:D} {v:V} (wk:WOk K H θ μ) (r:Rp K H θ μ d v) (h:isDc μ d=true):tyV K "dict" v H:=by
 cases d with
 | loc n =>
  obtain ⟨a,rfl,ha⟩:=Xc r
  simp only [isDc] at h
  split at h
  ·rename_i ks ds hn
   obtain ⟨kvs,e1,_⟩:=wk.cell n _ a hn ha
   exact .inr (.inr (.inl ⟨rfl,.inl ⟨kvs,e1⟩⟩))
  ·cases h
 | _=>cases h
theorem le_sqd {m:String} (hm:m = "get"∨m = "pop") {wo:WE} {ws:WA} {σ:L2.St} {H:Hp} {Q:VK} (h:LE X.K (fun ρ μ Q=>wo ρ μ fun x μ1=>isSq m μ1 x=true/\ws ρ μ1 fun ds μ2=>wSqm m x ds μ2 Q) σ H Q):tBM X.K "dict" (lowM X.K (wSqm m)) (LE X.K wo) (LA X.K ws) σ H Q:=by
 obtain ⟨ρ,θ,μ,Qd,s,h,f⟩:=h
 refine ⟨ρ,θ,μ,_,s,h,fun x v H1 θ1 μ1 w1 g1 r1 h1=>⟨isDc_ty w1 r1 (by have:=h1.1; rw [isSq,if_pos hm] at this; exact this),ρ,θ1,μ1,_,s.grow w1 g1,h1.2,fun ds vs H2 θ2 μ2 w2 g2 r2 h2=>?_⟩⟩
 exact ⟨x,ds,θ2,μ2,Qd,w2,g2.rep r1,r2,h2,f.mono (g1.trans g2)⟩
end
end DW
end
section
set_option maxHeartbeats 2000000
namespace DW
open PySem PySem.Spec PyProof.Rows L2 PySem.SeqAt PySem.Builtin PySem.Builtin.Str
section
variable {X:Cx}
end
end DW
end
section
set_option maxHeartbeats 2000000
namespace DW
section
open PySem PySem.SeqAt
open AutoSeq1 (wpAny_loadPart')
open MeetsSeq MeetsSeq2 MeetsSeq3 SeqRoads2
end
open PySem PySem.Spec PyProof.Rows L2 PySem.SeqAt
section
variable {X:Cx}
end
end DW
end
section
set_option maxHeartbeats 4000000
namespace DW
open PySem PySem.Spec PyProof.Rows L2 PySem.SeqAt
open PySem.AutoSeq1 (wpAny_loadPart')
theorem IsItem.keep {h h':Heap} {v:Value} {x:Itm} (k:∀ b o,h.get? b=some o->h'.get? b=some o) (i:IsItem h v x):IsItem h' v x:=by
 obtain ⟨p,o,t,u,n,e,g,r⟩:=i
 exact ⟨p,o,t,u,n,e,k _ _ g,r⟩
section
variable {prog:Program} {w:World} {A:Around} {E:Value->Shared->Prop}
end
section
variable {X:Cx}
end
end DW
end
section
set_option maxHeartbeats 2000000
namespace DW
open PySem PySem.Spec PyProof.Rows L2
section
variable {X:Cx}
end
end DW
end
section
namespace DW
open PySem PySem.Spec PyProof.Rows L2
section
variable {X:Cx}
end
end DW
end
section
namespace DW
open PySem PySem.Spec PyProof.Rows L2
section
variable {X:Cx}
variable {σ:L2.St} {H:Hp} {pins:List (Addr×Obj)} {l:List Nat} {rest:List (Sem Value)} {Q:List Nat->Prop}
end
end DW
end
section
set_option maxHeartbeats 2000000
namespace DW
open PySem PySem.Spec PyProof.Rows L2
section
variable {K:PySem.W.Frag} {H:Hp} {θ:List Addr} {μ:Mem} {f:String} {d:D} {v:V}
end
section
variable {X:Cx}
theorem Xaj {o:Expr} {m:Str} {env:Env} (h:Vaz o=true):attributeBase o m env (eval o env)=eval o env:=by
 cases o with
 | Call f as ks p=>obtain ⟨x,q,a,r,rfl,rfl⟩:=Vae h; rfl
 | _=>first | rfl | exact (Bool.false_ne_true h).elim
end
end DW
end
section
set_option maxHeartbeats 2000000
namespace DW
open PySem PySem.Spec PyProof.Rows L2
section
variable {X:Cx}
end
section
variable {X:Cx} {EX:L2.St->XK}
end
end DW
end
section
set_option maxHeartbeats 2000000
namespace DW
open PySem PySem.Spec PyProof.Rows L2
section
variable {X:Cx} {EX:L2.St->XK}
end
end DW
end
section
set_option maxHeartbeats 2000000
namespace DW
open PySem PySem.Spec PyProof.Rows L2
variable {X:Cx}
end DW
end
section
set_option maxHeartbeats 2000000
namespace DW
open PySem PySem.Spec PyProof.Rows L2
section
variable {prog:Program} {w:World} {A:Around} {E:Value->Shared->Prop} {s:Shared}
set_option maxHeartbeats 3200000 in
theorem Vap {l:Addr} {items:Array Value} {ns:List Int} {Q:Value->Shared->Prop}
  (hh:A.handled=none) (hl:s.heap.IsTuple l items) (hi:IntsAre items.toList ns) (hb:items.size + 1 < scanBound)
  (h:∀ (h':Heap) (tk:Nat),h'.SetOf (intKind prog w) s.heap.objs.size (fun k'=>(firstMet (fun i=>ns.getD i 0) items.size).any (· == k')) (firstMet (fun i=>ns.getD i 0) items.size).length ->
   (∀ b o,b < s.heap.objs.size->s.heap.get? b=some o->h'.get? b=some o)->Q (.ref s.heap.objs.size) { s with heap:=h',toks:=tk }) :
  wpAny (model prog w) A (call (.type "set") [.ref l]) Q E s:=by
 obtain ⟨c,tl,hmro⟩:=PySem.F.called_set.mro
 have hmade:=PySem.F.called_set.made
 have hsub:=PySem.F.called_set.sub
 refine wpAny_call (codeAny_of_tree ?_)
 show wpAny _ _ (callAny (.type "set") _) _ _ _
 refine wpAny_pure ⟨Code.quiet_builtin _ (by decide +kernel),codeAny_builtin PySem.F.entry_type_call ?_⟩
 rw [Around.under_plain (weight_type_call_type "set" [.ref l] []) rfl]
 have h1:=PySem.F.called_set.notType
 have h2:=PySem.F.called_set.canCreate
 have hct:=PySem.F.typeCall_set_1 (.ref l)
 repeat (any_goals (first | assumption | wp_step))
 refine codeAny_mono (code_set_new_1 (.ref l) (E:=E) (Q₁:=fun obj s1=>∃ led:Bool,obj = .ref s.heap.objs.size/\s1={ s with heap:=s.heap.push { cls:=.type "set",dict:=none,data:=.set #[] 0 (.fresh 0 0 led) } }) fun led=>⟨led,rfl,rfl⟩) fun r s1 hr=>?_
 cases r with
 | error e=>exact hr
 | ok fl =>
  cases fl with
  | ret obj =>
   obtain ⟨led,rfl,rfl⟩:=hr
   have hS:(s.heap.push { cls:=.type "set",dict:=none,data:=.set #[] 0 (.fresh 0 0 led) }).get? s.heap.objs.size=some { cls:=.type "set",dict:=none,data:=.set #[] 0 (.fresh 0 0 led) }:=Heap.get?_push_size _ rfl
   have hT:Shared.TypeIs { s with heap:=s.heap.push { cls:=.type "set",dict:=none,data:=.set #[] 0 (.fresh 0 0 led) } } (.ref s.heap.objs.size) "set":=⟨_,hS,rfl⟩
   have hli:=PySem.F.called_set.init.lookup
   have hbi:=PySem.F.called_set.init.bind (.ref s.heap.objs.size)
   repeat (any_goals (first | assumption | wp_step))
   refine codeAny_mono (codeAny_call_builtin (R:=wants (fun r s2=>r = .none/\∃ h' tk,s2={ s with heap:=h',toks:=tk } /\
     h'.SetOf (intKind prog w) s.heap.objs.size (fun k'=>(firstMet (fun i=>ns.getD i 0) items.size).any (· == k')) (firstMet (fun i=>ns.getD i 0) items.size).length /\
     (∀ b o,b < s.heap.objs.size->s.heap.get? b=some o->h'.get? b=some o)) E) PySem.F.called_set.init.plain PySem.F.entry_set_init (check_set_init_1 hT ?_)) fun r2 s2 hr2=>?_
   ·obtain ⟨ol,hol,hcl,nl,hdl⟩:=hl
    obtain ⟨ocls,odict,odata,oslots⟩:=ol
    simp only at hcl hdl
    subst hcl; subst hdl
    have hol':(s.heap.push { cls:=.type "set",dict:=none,data:=.set #[] 0 (.fresh 0 0 led) }).get? l=some { cls:=.type "tuple",dict:=odict,data:=.seq items nl,slots:=oslots }:=Heap.get?_push_of_some _ hol
    have hsls:=PySem.F.sub_tuple_set
    have hslf:=PySem.F.sub_tuple_frozenset
    have hne:(Value.type "tuple" == Value.type "dict")=false:=by decide
    have hl1:(s.heap.push { cls:=.type "set",dict:=none,data:=.set #[] 0 (.fresh 0 0 led) }).IsTuple l items:=⟨_,hol',rfl,nl,rfl⟩
    unfold Builtin.«set.__init__» noKeywords Builtin.Frozenset.updateFrom
    generalize hPI:pyIter=PI
    wp_walk
    subst hPI
    refine wpAny_pyIter_tuple hl1 ?_
    refine wpAny_bind (wpAny_runValue ?_)
    have hlS:l < s.heap.objs.size:=Heap.lt_size hol
    have hh3:A.in1.in1.in1.handled=none:=by simp [hh]
    have hneI:l≠(s.heap.push { cls:=.type "set",dict:=none,data:=.set #[] 0 (.fresh 0 0 led) }).objs.size:=by
     rw [Heap.size_push]; exact Nat.ne_of_lt (Nat.lt_succ_of_lt hlS)
    have hSf:s.heap.objs.size ∉ [(s.heap.push { cls:=.type "set",dict:=none,data:=.set #[] 0 (.fresh 0 0 led) }).objs.size,l]:=by
     rw [Heap.size_push]; simp only [List.mem_cons,List.mem_singleton,List.not_mem_nil,or_false,not_or]
     exact ⟨Nat.ne_of_lt (Nat.lt_succ_self _),Nat.ne_of_gt hlS⟩
    have hval:∀ (i:Nat) (v:Value),items[i]? = some v->∃ t,v = .int ((fun i=>ns.getD i 0) i) t:=fun i v hv =>
     IntsAre.int_at hi i v (by rw [Array.getElem?_toList]; exact hv)
    refine codeAny_set_update_loopS ((Walks.tuple hh3 _ l hneI items).toS) s.heap.objs.size
     hSf (fun i=>ns.getD i 0) hval hb (items.size - 0) 0 _ (by omega) (Nat.zero_le _)
     ⟨⟨_,Heap.get?_push_size _ rfl,rfl,rfl⟩,⟨_,Heap.get?_push_of_some _ hol',rfl,nl,rfl⟩⟩ ?hS0 ?hR
    case hS0 =>
     have hget:((s.heap.push { cls:=.type "set",dict:=none,data:=.set #[] 0 (.fresh 0 0 led) }).push { cls:=.type "tuple_iterator",data:=.fields #[.ref l,.int 0 0] }).get? s.heap.objs.size
       = some { cls:=.type "set",dict:=none,data:=.set #[] 0 (.fresh 0 0 led) }:=Heap.get?_push_of_some _ hS
     exact SetOf_congr ((setObjOf_fresh (knd:=intKind prog w) led).setOf hget (by unfold scanBound; omega)) (fun _=>rfl) rfl
    case hR =>
     intro s' hm hS'
     obtain ⟨h',g',d',tk',os'⟩:=s'
     have eg:g'=s.gens:=hm.gens
     have ed:d'=s.drawn:=hm.drawn
     have eo:os'=s.os:=hm.os
     subst eg; subst ed; subst eo
     show wpAny _ _ _ _ _ _
     refine wpAny_pure ?_
     show wpAny _ _ (ret Value.none) _ _ _
     refine wpAny_pure ⟨rfl,h',tk',rfl,hS',fun b o hb e=>?_⟩
     have hb1:b≠s.heap.objs.size:=Nat.ne_of_lt hb
     have hb2:b≠(s.heap.push { cls:=.type "set",dict:=none,data:=.set #[] 0 (.fresh 0 0 led) }).objs.size:=by
      rw [Heap.size_push]; exact Nat.ne_of_lt (Nat.lt_succ_of_lt hb)
     exact hm.heap b o (by simp only [List.mem_cons,List.mem_singleton,List.not_mem_nil,or_false,not_or]; exact ⟨hb1,hb2⟩) (Heap.get?_push_of_some _ (Heap.get?_push_of_some _ e))
   ·cases r2 with
    | error e=>exact hr2
    | ok fl2 =>
     cases fl2 with
     | ret r =>
      obtain ⟨rfl,h',tk,rfl,hS',hk'⟩:=hr2
      repeat (any_goals (first | assumption | wp_step))
      exact h _ _ hS' hk'
     | _=>exact hr2.elim
  | _=>exact hr.elim
end
section
variable {X:Cx}
theorem Ww (ns:List Int):(firstMet (fun i=>ns.getD i 0) ns.length).length=Yt ns:=by
 have e:(List.range ns.length).map (fun i=>ns.getD i 0)=ns:=by
  apply List.ext_getElem?
  intro i
  by_cases c:i < ns.length
  ·simp [c]
  ·simp [c,Nat.le_of_not_lt c]
 unfold firstMet Yt
 rw [e]
 rfl
theorem Yaz (hc:X.calm=true):CallR X (.type "set") (fun xs H Q=>∃ p ns,xs=[.ref p]/\(SqL X.K H p (ns.map V.int)∨SqT X.K H p (ns.map V.int))/\ns.length < 1000/\∀ q S,H q=none->Q (.ref q) (upd H q (.set S (Yt ns)))):=by
 intro pins s σ H xs us Q I r h
 obtain ⟨p,ns,rfl,hs,hl,q⟩:=h
 obtain ⟨u,rfl,rx⟩:=vals1 r
 cases rx
 have hh:=I.ok.hd hc
 have sb:ns.length + 1 < scanBound:=by unfold scanBound; omega
 rcases hs with hs | hs
 ·obtain ⟨its,vi,pl,hz⟩:=I.list hs
  have hi:=DW.vals_ints vi
  have el:its.length=ns.length:=hi.length
  refine call_set_list (items:=its.toArray) (ns:=ns) hh pl.isList (by simpa using hi) (by simp only [List.size_toArray]; omega) fun h' tk hS hk=>?_
  simp only [List.size_toArray,el,Ww] at hS
  exact ⟨.ref s.heap.objs.size,_,I.laid (t':=tk) (fun b u e=>hk b u (Heap.lt_size e) e) (Nat.le_refl _) (show ObjOk X.prog X.w _ h' _ (.set (fun k'=>(firstMet (fun i=>ns.getD i 0) ns.length).any fun x=>x == k') (Yt ns)) from hS),rfl,q _ _ (I.hok.fresh (Nat.le_refl _))⟩
 ·obtain ⟨its,vi,pl,hz⟩:=I.tuple hs
  have hi:=DW.vals_ints vi
  have el:its.length=ns.length:=hi.length
  refine Vap (items:=its.toArray) (ns:=ns) hh pl (by simpa using hi) (by simp only [List.size_toArray]; omega) fun h' tk hS hk=>?_
  simp only [List.size_toArray,el,Ww] at hS
  exact ⟨.ref s.heap.objs.size,_,I.laid (t':=tk) (fun b u e=>hk b u (Heap.lt_size e) e) (Nat.le_refl _) (show ObjOk X.prog X.w _ h' _ (.set (fun k'=>(firstMet (fun i=>ns.getD i 0) ns.length).any fun x=>x == k') (Yt ns)) from hS),rfl,q _ _ (I.hok.fresh (Nat.le_refl _))⟩
theorem Vai:CallR X (.builtin "len") (fun xs H Q=>∃ p S n,xs=[.ref p]/\H p=some (.set S n)/\Q (.int n) H):=by
 intro pins s σ H xs us Q I r h
 obtain ⟨p,S,n,rfl,hp,q⟩:=h
 obtain ⟨u,rfl,rx⟩:=vals1 r
 cases rx
 obtain ⟨o,es,ep,t,ho,hex,hd,_,_,hb,hf,rfl⟩:=(show ObjOk X.prog X.w H s.heap p (.set S n) from I.hok p _ hp)
 exact call_len_set ho hex hd hf (by unfold scanBound at hb; omega) ⟨.int _,H,I.tok _,⟨_,rfl⟩,q⟩
theorem boot_set:bootBuiltins (Str.ofString "set")=some (.type "set"):=by decide +kernel
theorem Vb1:bootBuiltins (Str.ofString "len")=some (.builtin "len"):=by decide +kernel
theorem seqI_sq {K:PySem.W.Frag} {H:Hp} {θ:List Addr} {μ:Mem} {d:D} {x:V} {ds:List D} {ns:List Int} (wk:WOk K H θ μ) (r:Rp K H θ μ d x) (h:Zb μ d=some ds) (hn:We ds=some ns):∃ p,x = .ref p/\(SqL K H p (ns.map V.int)∨SqT K H p (ns.map V.int)):=by
 cases d with
 | tup es =>
  cases h
  obtain ⟨a,xs,rfl,h1,_,rs⟩:=Ze r
  cases Zu rs hn
  exact ⟨a,rfl,.inr (SqT.of h1)⟩
 | lst es =>
  obtain ⟨a,ys,rfl,hx,rs⟩:=Xg wk r (show Zf μ (.lst es)=some ds from h)
  cases Zu rs hn
  exact ⟨a,rfl,.inl hx⟩
 | ro es =>
  obtain ⟨a,ys,rfl,hx,rs⟩:=Xg wk r (show Zf μ (.ro es)=some ds from h)
  cases Zu rs hn
  exact ⟨a,rfl,.inl hx⟩
 | loc n =>
  obtain ⟨a,ys,rfl,hx,rs⟩:=Xg wk r (show Zf μ (.loc n)=some ds from h)
  cases Zu rs hn
  exact ⟨a,rfl,.inl hx⟩
 | _=>cases h
theorem Ycc {a:Expr} {wa:WE} {y z:Str} {p p2 pos pos2:Pos} (hc:X.calm=true) (ha:PE X a (LE X.K wa)) (ey:y=Str.ofString "len") (ez:z=Str.ofString "set") (g1:Gl X y) (g2:Gl X z) (m1:X.mg y=none) (m2:X.mg z=none)
  (hs:starEach [a] X.env=(false,eval a X.env) :: starEach [] X.env) :
  PE X (.Call (.Name y p) [.Call (.Name z p2) [a] [] pos2] [] pos) (LE X.K fun ρ μ Q=>wa ρ μ fun d μ1=>Zbh d μ1 Q):=by
 subst ey ez
 have hset:=Zo (x:=Str.ofString "set") (p:=p2) (pos:=pos2) (Yaz hc) g2 m2 boot_set (Yl ha Zw hs) (by decide +kernel) (by decide +kernel) hs rfl
 refine PE.wk (Vg (x:=Str.ofString "len") Vai g1 m1 Vb1 (Yl hset Zw rfl) (by decide +kernel) (by decide +kernel) rfl rfl) fun σ H Q h=>?_
 obtain ⟨ρ,θ,μ,Qd,s,h,f⟩:=h
 refine ⟨ρ,θ,μ,_,s,h,fun d v H1 θ1 μ1 w1 g1 r1 h1=>?_⟩
 unfold Zbh at h1
 split at h1
 ·rename_i ns e
  obtain ⟨hl,h1⟩:=h1
  cases q:Zb μ1 d with
  | none=>rw [q] at e; cases e
  | some ds =>
   rw [q] at e
   obtain ⟨a',rfl,hsq⟩:=seqI_sq w1 r1 q e
   refine ⟨a',ns,rfl,hsq,hl,fun b S hb=>?_⟩
   have e1:=Xl (o:=HO.set S (Yt ns)) hb
   exact ⟨b,S,_,rfl,Xb,f _ _ _ θ1 μ1 (w1.ext e1) (g1.trans (Grow.ext e1)) Vd h1⟩
 ·exact h1.elim
end
end DW
end
section
set_option maxHeartbeats 4000000
namespace DW
open PySem PySem.Spec PyProof.Rows L2
section
variable {X:Cx}
theorem Xao {K:PySem.W.Frag} {H:Hp} {θ:List Addr} {μ:Mem} {d:D} {v:V} (wk:WOk K H θ μ) (r:Rp K H θ μ d v) (h:isCell μ d=true):tyV K "list" v H:=by
 cases d with
 | loc n =>
  obtain ⟨a,rfl,ha⟩:=Xc r
  simp only [isCell] at h
  split at h
  ·rename_i ds hn
   obtain ⟨xs,hx,_⟩:=wk.list hn ha
   exact .inl ⟨rfl,xs,.of hx⟩
  ·cases h
 | _=>cases h
theorem Vbr {m:String} {wo:WE} {ws:WA} {σ:L2.St} {H:Hp} {Q:VK} (h:LE X.K (fun ρ μ Q=>wo ρ μ fun x μ1=>isCell μ1 x=true/\ws ρ μ1 fun ds μ2=>Xy m x ds μ2 Q) σ H Q):tBM X.K "list" (lowM X.K (Xy m)) (LE X.K wo) (LA X.K ws) σ H Q:=by
 obtain ⟨ρ,θ,μ,Qd,s,h,f⟩:=h
 refine ⟨ρ,θ,μ,_,s,h,fun x v H1 θ1 μ1 w1 g1 r1 h1=>⟨Xao w1 r1 h1.1,ρ,θ1,μ1,_,s.grow w1 g1,h1.2,fun ds vs H2 θ2 μ2 w2 g2 r2 h2=>?_⟩⟩
 exact ⟨x,ds,θ2,μ2,Qd,w2,g2.rep r1,r2,h2,f.mono (g1.trans g2)⟩
theorem Zch {m:String} {wo:WE} {σ:L2.St} {H:Hp} {Q:VK} (h:LE X.K (fun ρ μ Q=>wo ρ μ fun x μ1=>isCell μ1 x=true/\Xy m x [] μ1 Q) σ H Q):tBM0 X.K "list" (lowM X.K (Xy m)) (LE X.K wo) σ H Q:=by
 obtain ⟨ρ,θ,μ,Qd,s,h,f⟩:=h
 refine ⟨ρ,θ,μ,_,s,h,fun x v H1 θ1 μ1 w1 g1 r1 h1=>⟨Xao w1 r1 h1.1,?_⟩⟩
 exact ⟨x,[],θ1,μ1,Qd,w1,r1,Reps.nil,h1.2,f.mono g1⟩
theorem Yq {o:Expr} {m:Str} {env:Env} (h:Vaz o=true) (hm:m=Str.ofString "append"∨m=Str.ofString "insert"):attributeBase o m env (eval o env)=eval o env:=by
 cases o with
 | Call f as ks p=>obtain ⟨x,q,a,r,rfl,rfl⟩:=Vae h; rfl
 | _=>first | rfl | exact (Bool.false_ne_true h).elim
theorem Xbv {c:Ctx} {cpos:Pos} {as:Es} {e:Expr} {es:List Expr} (h:mEs c as (e :: es)=true) (h30:(e :: es).length < 30):((backTo cpos (starEach (e :: es) X.env)).all (fun x=>!x.1) && (backToKw cpos (keywordEach [] X.env)).all (fun x=>x.1.isSome)
   && decide ((e :: es).length + ([]:List Keyword).length + (if ([]:List Keyword).isEmpty then 0 else 1) < 30))=true:=by
 have h1:(backTo cpos (starEach (e :: es) X.env)).all (fun x=>!x.1)=true:=by
  have:=Yn (pos:=cpos) (env:=X.env) h
  rw [List.all_eq_not_any_not]
  simpa using this
 have h2:(backToKw cpos (keywordEach [] X.env)).all (fun x=>x.1.isSome)=true:=rfl
 rw [h1,h2]
 simpa using h30
noncomputable abbrev WO:=Rho->Mem->(Option Int->Mem->Prop)->Prop
noncomputable def LO (K:PySem.W.Frag) (w:WO):TO:=fun σ H Q=>∃ ρ θ μ Qd,Sim K σ H ρ θ μ/\w ρ μ Qd/\∀ (o:Option Int) (H':Hp) (θ':List Addr) (μ':Mem),WOk K H' θ' μ'->Grow H θ μ H' θ' μ'->Qd o μ'->Q o H'
theorem Xca:PO X none (LO X.K fun _ μ Q=>Q none μ):=fun pins s σ H Q I h=>by
 obtain ⟨ρ,θ,μ,Qd,sm,h,f⟩:=h
 exact po_none pins s σ H Q I (f none H θ μ sm.wok Grow.refl h)
theorem Yca {a:Expr} {w:WE} (ha:PE X a (LE X.K w)):PO X (some a) (LO X.K fun ρ μ Q=>w ρ μ fun d μ1=>wInt d μ1 fun i μ2=>Q (some i) μ2):=fun pins s σ H Q I h=>by
 obtain ⟨ρ,θ,μ,Qd,sm,h,f⟩:=h
 refine po_some ha pins s σ H Q I ⟨ρ,θ,μ,_,sm,h,fun d v H1 θ1 μ1 w1 g1 r1 h1=>?_⟩
 cases d with
 | int i=>exact ⟨i,Yb r1,f (some i) H1 θ1 μ1 w1 g1 h1⟩
 | _=>exact h1.elim
theorem le_slc {m:Bool} {wa:WE} {wl wh:WO} {σ:L2.St} {H:Hp} {Q:VK} (h:LE X.K (fun ρ μ Q=>wa ρ μ fun x μ1=>wl ρ μ1 fun l μ2=>wh ρ μ2 fun h μ3=>wSlc m x l h μ3 Q) σ H Q) :
  tSl (lowSl X.K m) (LE X.K wa) (LO X.K wl) (LO X.K wh) σ H Q:=by
 obtain ⟨ρ,θ,μ,Qd,s,h,f⟩:=h
 refine ⟨ρ,θ,μ,_,s,h,fun x v H1 θ1 μ1 w1 g1 r1 h1=>⟨ρ,θ1,μ1,_,s.grow w1 g1,h1,fun l H2 θ2 μ2 w2 g2 h2=>⟨ρ,θ2,μ2,_,s.grow w2 (g1.trans g2),h2,fun o H3 θ3 μ3 w3 g3 h3=>?_⟩⟩⟩
 exact ⟨x,θ3,μ3,Qd,w3,(g2.trans g3).rep r1,h3,f.mono ((g1.trans g2).trans g3)⟩
noncomputable def isTup:Expr->Bool
 | .Tuple ..=>true
 | _=>false
theorem Zaf {c:Ctx} {is:List Nat} {tt:Bool} {t:Expr} {it:It} (h:mTg c is tt t=true) (hz:V8 tt it=true):V8 (isTup t) it=true:=by
 cases it with
 | enum l =>
  simp only [V8] at hz ⊢
  subst hz
  cases t <;> first | rfl | exact (Bool.false_ne_true h).elim
 | _=>rfl
theorem mI_set {c:Ctx} {it:It} {a:Expr} (h:mI c it a=true):Vj a=true:=by
 cases it with
 | seq e=>simp only [mI,Bool.and_eq_true] at h; exact h.2
 | _ =>
  obtain ⟨t,e,_⟩:=Wa h
  obtain ⟨p,q,rfl⟩:=Xf e
  rfl
theorem lt_chain {p q:CmpOp} {wa wb wc:WE} {σ:L2.St} {H:Hp} {Q:Bool->Hp->Prop}
  (h:LT X.K (fun ρ μ Q=>wa ρ μ fun x μ1=>wb ρ μ1 fun y μ2=>wCmp p x y μ2 fun r μ3=>wBl r μ3 fun t μ3=>if t=true then wc ρ μ3 fun z μ4=>wCmp q y z μ4 fun r μ5=>wBl r μ5 Q else Q false μ3) σ H Q) :
  Xb7 (Wa2 (low2 X.K (wCmp p)) (low2 X.K (wCmp q)) (LE X.K wa) (LE X.K wb) (LE X.K wc)) σ H Q:=by
 obtain ⟨ρ,θ,μ,Qd,s,h,f⟩:=h
 refine Xa4 (Q:=fun x H'=>∃ k,x = .bl k/\Q k H') ⟨ρ,θ,μ,fun r μ'=>wBl r μ' Qd,s,h,fun r v H1 θ1 μ1 w1 g1 r1 h1=>?_⟩
 cases r with
 | bl b=>exact ⟨b,Vf r1,f b H1 θ1 μ1 w1 g1 h1⟩
 | _=>exact h1.elim
theorem Zj {a:Expr} {t:TT} (h:∀ op vs pos,a≠.BoolOp op vs pos):∀ op vs pos,a = .BoolOp op vs pos->PW X a t:=fun op vs pos e=>absurd e (h op vs pos)
end
theorem Wq {c:Ctx} {as:Es} {e:Expr} {es:List Expr} (h:mEs c as (e :: es)=true):notStar e=true/\∃ es',mEs c es' es=true:=by
 cases as with
 | nil=>exact (Bool.false_ne_true h).elim
 | cons e' es' =>
  simp only [mEs,Bool.and_eq_true] at h
  exact ⟨h.1.2,es',h.2⟩
theorem pe_cstD {X:Cx} {k:Const} {j:Nat} {pos:Pos} {d:D} (h:mC k d=true):PE X (.Constant k j pos) (LE X.K (wE (.cst d))):=by
 cases k <;> cases d <;> simp only [mC,Bool.false_eq_true,Bool.and_eq_true,beq_iff_eq] at h
 ·exact PE.wk pe_non fun σ H Q q=>Yw (fun _ _ _=>Xa3) q
 ·subst h; exact PE.wk pe_bl fun σ H Q q=>Yw (fun _ _ _=>Zi) q
 ·subst h; exact PE.wk Vam fun σ H Q q=>Yw (fun _ _ _=>Vd) q
 ·rename_i x y
  obtain ⟨h1,h2⟩:=h
  have h1:=of_decide_eq_true h1
  have h2:=of_decide_eq_true h2
  subst h1
  have e:x=⟨x.cps.toList.toArray⟩:=by simp
  refine PE.wk pe_str fun σ H Q q=>Yw (fun _ _ _=>?_) q
  rw [e]
  exact Vab (by rw [sizeLine_eq]; exact h2)
theorem cmOr {c:Ctx} {it:It} {tt:Bool} (h:(c.calm || (Wat it && !tt))=true):c.calm=true∨Wat it=true:=by
 rcases Bool.or_eq_true_iff.mp h with h | h
 ·exact .inl h
 ·exact .inr (Bool.and_eq_true_iff.mp h).1
theorem cmTt {c:Ctx} {it:It} {tt:Bool} (h:(c.calm || (Wat it && !tt))=true):tt=true->c.calm=true:=fun z=>by
 subst z
 simpa using h
mutual
theorem sE : ∀ (e : E) {X : Cx} {c : Ctx} {a : Expr}, CtxOk X c -> mE c e a = true -> okE (Vv X) (Vq X) e -> Snd X e a
  | .var i, X, c, a, C, h, _ => by
    have h : (opt (W4 a) fun x => c.at_ i x && c.vis x && !Yo x) = true := h
    obtain ⟨x, e, hh⟩ := Wa h
    obtain ⟨pos, rfl⟩ := Wn e
    have h := hh
    simp only [Bool.and_eq_true, Bool.not_eq_true'] at h
    obtain ⟨⟨h1, h2⟩, h3⟩ := h
    obtain ⟨o1, o2⟩ := Xr h3
    have pe : PE X (.Name x pos) (LE X.K (wE (.var i))) := PE.wk (pe_varD (by rw [C.N]; exact Wv h1) (C.vis x h2) o1 o2) fun σ H Q q => q
    refine ⟨pe, PT.wk (Vu pe fun _ => rfl) fun σ H Q q => ?_, Zj (fun _ _ _ z => by cases z)⟩
    obtain ⟨ρ, θ, μ, Qd, s, q, f⟩ := q
    refine ⟨ρ, θ, μ, Qd, s, ?_, f⟩
    simp only [wT] at q
    simp only [wE]
    split at q
    . exact q
    . exact q.elim
  | .cst d, X, c, a, C, h, _ => by
    have h : (opt (Xbi a) fun k => mC k d) = true := h
    obtain ⟨k, e, hh⟩ := Wa h
    obtain ⟨j, pos, rfl⟩ := Wa9 e
    have h := hh
    have pe := pe_cstD (X := X) (j := j) (pos := pos) h
    refine ⟨pe, PT.wk (Vu pe fun _ => rfl) fun σ H Q q => ?_, Zj (fun _ _ _ z => by cases z)⟩
    obtain ⟨ρ, θ, μ, Qd, s, q, f⟩ := q
    exact ⟨ρ, θ, μ, Qd, s, q, f⟩
  | .gbl y d, X, c, a, C, h, ok => by
    have h : (opt (W4 a) fun x => x == y && c.glb x && !Yo x) = true := h
    obtain ⟨x, e, hh⟩ := Wa h
    obtain ⟨pos, rfl⟩ := Wn e
    have h := hh
    simp only [Bool.and_eq_true, Bool.not_eq_true', beq_iff_eq] at h
    obtain ⟨⟨rfl, h2⟩, h3⟩ := h
    obtain ⟨u, v, m, r, rp⟩ := (show Vq X x d from ok)
    exact ⟨PE.wk (pe_glob (C.glb x h2) m r (Xr h3).1) fun σ H Q q => Yw rp q, Ye, Zj (fun _ _ _ z => by cases z)⟩
  | .bin op l r, X, c, a, C, h, ok => by
    have h : (opt (vBin a) fun t => op == t.2.1 && mE c l t.1 && mE c r t.2.2) = true := h
    obtain ⟨⟨l', op', r'⟩, e, hh⟩ := Wa h
    obtain ⟨pos, rfl⟩ := Xb5 e
    have h := hh
    simp only [Bool.and_eq_true, beq_iff_eq] at h
    obtain ⟨⟨rfl, h1⟩, h2⟩ := h
    exact ⟨PE.wk (Zcc (bin_ok op) (sE l C h1 ok.1).pe (sE r C h2 ok.2).pe) fun σ H Q q => Z0 q, Ye, Zj (fun _ _ _ z => by cases z)⟩
  | .neg l, X, c, a, C, h, ok => by
    have h : (opt (vNeg a) fun t => mE c l t) = true := h
    obtain ⟨l', e, hh⟩ := Wa h
    obtain ⟨pos, rfl⟩ := Zb5 e
    have h := hh
    have S1 := sE l C h ok
    refine ⟨PE.wk (pe_un un_neg S1.pe) fun σ H Q q => ?_, Ye, Zj (fun _ _ _ z => by cases z)⟩
    obtain ⟨ρ, θ, μ, Qd, s, q, f⟩ := q
    refine ⟨ρ, θ, μ, _, s, q, fun x v H1 θ1 μ1 w1 g1 r1 h1 => ?_⟩
    cases x with
    | int i => exact ⟨i, Yb r1, (f.mono g1).at w1 Vd h1⟩
    | _ => exact h1.elim
  | .not l, X, c, a, C, h, ok => by
    have h : (opt (vNot a) fun t => mE c l t) = true := h
    obtain ⟨l', e, hh⟩ := Wa h
    obtain ⟨pos, rfl⟩ := Vb4 e
    have h := hh
    have S1 := sE l C h ok
    refine ⟨PE.wk (pe_not S1.pe) fun σ H Q q => ?_, PT.wk (pt_not S1.pt) fun σ H Q q => ?_, Zj (fun _ _ _ z => by cases z)⟩
    . obtain ⟨ρ, θ, μ, Qd, s, q, f⟩ := q
      refine ⟨ρ, θ, μ, _, s, q, fun x v H1 θ1 μ1 w1 g1 r1 h1 => ?_⟩
      cases x with
      | bl b => exact ⟨b, Vf r1, (f.mono g1).at w1 Zi h1⟩
      | _ => exact h1.elim
    . obtain ⟨ρ, θ, μ, Qd, s, q, f⟩ := q
      exact ⟨ρ, θ, μ, _, s, q, fun b H1 θ1 μ1 w1 g1 h1 => f (!b) H1 θ1 μ1 w1 g1 h1⟩
  | .cmp op l r, X, c, a, C, h, ok => by
    have h : (opt (vCmp a) fun t => op == t.2.1 && mE c l t.1 && mE c r t.2.2 && Vj t.2.2) = true := h
    obtain ⟨⟨l', op', r'⟩, e, hh⟩ := Wa h
    obtain ⟨pos, rfl⟩ := Xaf e
    have h := hh
    simp only [Bool.and_eq_true, beq_iff_eq] at h
    obtain ⟨⟨⟨rfl, h1⟩, h2⟩, h3⟩ := h
    have S1 := sE l C h1 ok.1
    have S2 := sE r C h2 ok.2
    obtain ⟨k, hr⟩ := C.room
    exact ⟨PE.wk (Yau (Wae hr op) S1.pe S2.pe (V4 h3)) fun σ H Q q => Z0 q, PT.wk (Zau (Wae hr op) S1.pe S2.pe (V4 h3)) fun σ H Q q => lt_bl (w := wE (.cmp op l r)) (fun _ _ _ z => Z0 z) q, Zj (fun _ _ _ z => by cases z)⟩
  | .cmpS n l r, X, c, a, C, h, ok => by
    have h : (opt (vCmp a) fun t => (t.2.1 == (if n then CmpOp.NotEq else CmpOp.Eq)) && mE c l t.1 && mE c r t.2.2 && Vj t.2.2) = true := h
    obtain ⟨⟨l', op', r'⟩, e, hh⟩ := Wa h
    obtain ⟨pos, rfl⟩ := Xaf e
    have h := hh
    simp only [Bool.and_eq_true, beq_iff_eq] at h
    obtain ⟨⟨⟨rfl, h1⟩, h2⟩, h3⟩ := h
    have S1 := sE l C h1 ok.1
    have S2 := sE r C h2 ok.2
    obtain ⟨k, hr⟩ := C.room
    exact ⟨PE.wk (Yau (Wbm hr n) S1.pe S2.pe (V4 h3)) fun σ H Q q => Z0 q, PT.wk (Zau (Wbm hr n) S1.pe S2.pe (V4 h3)) fun σ H Q q => lt_bl (w := wE (.cmpS n l r)) (fun _ _ _ z => Z0 z) q, Zj (fun _ _ _ z => by cases z)⟩
  | .cmpT n l r, X, c, a, C, h, ok => by
    have h : (opt (vCmp a) fun t => (t.2.1 == (if n then CmpOp.NotEq else CmpOp.Eq)) && mE c l t.1 && mE c r t.2.2 && Vj t.2.2) = true := h
    obtain ⟨⟨l', op', r'⟩, e, hh⟩ := Wa h
    obtain ⟨pos, rfl⟩ := Xaf e
    have h := hh
    simp only [Bool.and_eq_true, beq_iff_eq] at h
    obtain ⟨⟨⟨rfl, h1⟩, h2⟩, h3⟩ := h
    have S1 := sE l C h1 ok.1
    have S2 := sE r C h2 ok.2
    obtain ⟨k, hr⟩ := C.room
    exact ⟨PE.wk (Yau (eqT_ok hr n) S1.pe S2.pe (V4 h3)) fun σ H Q q => Z0 q, PT.wk (Zau (eqT_ok hr n) S1.pe S2.pe (V4 h3)) fun σ H Q q => lt_bl (w := wE (.cmpT n l r)) (fun _ _ _ z => Z0 z) q, Zj (fun _ _ _ z => by cases z)⟩
  | .chain p q l m r, X, c, a, C, h, ok => by
    have h : (opt (vCmp2 a) fun t => p == t.2.1 && q == t.2.2.1 && mE c l t.1 && mE c m t.2.2.2.1 && mE c r t.2.2.2.2 && Vj t.2.2.2.2 && Vj t.2.2.2.1) = true := h
    obtain ⟨⟨l', p', q', m', r'⟩, e, hh⟩ := Wa h
    obtain ⟨pos, rfl⟩ := Wbi e
    have h := hh
    simp only [Bool.and_eq_true, beq_iff_eq] at h
    obtain ⟨⟨⟨⟨⟨⟨rfl, rfl⟩, h1⟩, h2⟩, h3⟩, h4⟩, h5⟩ := h
    have S1 := sE l C h1 ok.1
    have S2 := sE m C h2 ok.2.1
    have S3 := sE r C h3 ok.2.2
    obtain ⟨k, hr⟩ := C.room
    have hm : lastMarks [p, q] [m', r'] = false := by
      show behindInMarks q r' = false
      exact V4 h4
    exact ⟨PE.wk (Ycd (Wae hr p) (Wae hr q) S1.pe S2.pe S3.pe hm) fun σ H Q z => Xa4 z, PT.wk (Xb9 (Wae hr p) (Wae hr q) S1.pe S2.pe S3.pe hm) fun σ H Q z => lt_chain z, Zj (fun _ _ _ z => by cases z)⟩
  | .and x y, X, c, a, C, h, ok => by
    have h : (opt (vAnd a) fun t => mE c x t.1 && mE c y t.2) = true := h
    obtain ⟨⟨v, y'⟩, e, h⟩ := Wa h
    simp only [Bool.and_eq_true] at h
    have S1 := sE x C h.1 ok.1
    have S2 := sE y C h.2 ok.2
    rcases Wb5 e with ⟨pos, rfl⟩ | ⟨w, z, rest, pos, rfl, rfl⟩
    . have pw : PW X (.BoolOp .And [v, y'] pos) (LT X.K (wT (.and x y))) := PW.wk (pw_and S1.pt (pw_and1 S2.pt)) fun σ H Q q => lt_and q
      exact ⟨PE.wk (pe_and S1.pe (pe_one S2.pe)) fun σ H Q q => le_and q, pw.pt, fun _ _ _ _ => pw⟩
    . have pw : PW X (.BoolOp .And (v :: w :: z :: rest) pos) (LT X.K (wT (.and x y))) := PW.wk (pw_and S1.pt (S2.pw _ _ _ rfl)) fun σ H Q q => lt_and q
      exact ⟨PE.wk (pe_and S1.pe S2.pe) fun σ H Q q => le_and q, pw.pt, fun _ _ _ _ => pw⟩
  | .or x y, X, c, a, C, h, ok => by
    have h : (opt (vOr a) fun t => mE c x t.1 && mE c y t.2) = true := h
    obtain ⟨⟨v, y'⟩, e, h⟩ := Wa h
    simp only [Bool.and_eq_true] at h
    have S1 := sE x C h.1 ok.1
    have S2 := sE y C h.2 ok.2
    rcases vOr_inv e with ⟨pos, rfl⟩ | ⟨w, z, rest, pos, rfl, rfl⟩
    . have pw : PW X (.BoolOp .Or [v, y'] pos) (LT X.K (wT (.or x y))) := PW.wk (pw_or S1.pt (pw_or1 S2.pt)) fun σ H Q q => lt_or q
      exact ⟨PE.wk (pe_or S1.pe (pe_one S2.pe)) fun σ H Q q => le_or q, pw.pt, fun _ _ _ _ => pw⟩
    . have pw : PW X (.BoolOp .Or (v :: w :: z :: rest) pos) (LT X.K (wT (.or x y))) := PW.wk (pw_or S1.pt (S2.pw _ _ _ rfl)) fun σ H Q q => lt_or q
      exact ⟨PE.wk (pe_or S1.pe S2.pe) fun σ H Q q => le_or q, pw.pt, fun _ _ _ _ => pw⟩
  | .call x sp as, X, c, a, C, h, ok => by
    have h : (opt (Vk a) fun t => x == t.1 && c.glb x && !Yo x && mEs c as t.2) = true := h
    obtain ⟨⟨y, args⟩, e, hh⟩ := Wa h
    obtain ⟨p, pos, rfl⟩ := Xf e
    have h := hh
    simp only [Bool.and_eq_true, Bool.not_eq_true', beq_iff_eq] at h
    obtain ⟨⟨⟨rfl, h1⟩, h2⟩, h3⟩ := h
    have pe : PE X (.Call (.Name x p) args [] pos) (LE X.K (wE (.call x sp as))) := by
      cases args with
      | nil =>
        cases as with
        | nil => exact PE.wk (Wbo ok.1 (C.glb x h1) (Xr h2).1) fun σ H Q q => q
        | cons e es => exact (Bool.false_ne_true h3).elim
      | cons e es =>
        obtain ⟨hst, es', hes⟩ := Wq h3
        exact PE.wk (Xcd ok.1 (C.glb x h1) (sEs as C h3 ok.2) (Xr h2).1 (Zh hst) (Yn hes)) fun σ H Q q => q
    exact ⟨pe, PT.wk (Vu pe fun _ => rfl) fun σ H Q q => q, Zj (fun _ _ _ z => by cases z)⟩
  | .blt x as, X, c, a, C, h, ok => by
    have h : (opt (Vk a) fun t => c.calm && knownB.contains x && bname x == t.1 && Zc c t.1 && mEs c as t.2 && !t.2.isEmpty) = true := h
    obtain ⟨⟨y, args⟩, e, hh⟩ := Wa h
    obtain ⟨p, pos, rfl⟩ := Xf e
    have h := hh
    simp only [Bool.and_eq_true, Bool.not_eq_true', beq_iff_eq, Zc] at h
    obtain ⟨⟨⟨⟨⟨hc, h0⟩, h1⟩, h2, h3⟩, h4⟩, h5⟩ := h
    cases args with
    | nil => simp at h5
    | cons a1 es =>
      obtain ⟨hst, es', hes⟩ := Wq h4
      have pe : PE X (.Call (.Name y p) (a1 :: es) [] pos) (LE X.K (wE (.blt x as))) := PE.wk (pe_bltD (as := []) (by simpa using h0) h1.symm (C.calm hc) (C.room) (C.glb y h2) (C.blt y h3) (sEs as C h4 ok) (Zh hst) (Yn hes)) fun σ H Q q => q
      exact ⟨pe, PT.wk (Vu pe fun _ => rfl) fun σ H Q q => q, Zj (fun _ _ _ z => by cases z)⟩
  | .bltD x l r, X, c, a, C, h, ok => by
    have h : (false || false || (opt (Vbi a) fun t => c.calm && x == "ksort" && t.1 == Str.ofString "sorted" && Zc c t.1 && mE c l t.2.1 && notStar t.2.1 && Yao t.2.2 && capV c r) || (opt (Vk a) fun q => opt (vOne q.2) fun e' => opt (Vk e') fun t => opt (vOne t.2) fun y' => c.calm && x == "dicten" && (q.1 == Str.ofString "dict") && Zc c q.1 && (t.1 == Str.ofString "enumerate") && Zc c t.1 && mE c l y' && notStar y' && Xbt r)) = true := h
    rw [Bool.or_eq_true, Bool.or_eq_true, Bool.or_eq_true] at h
    rcases h with ((h | h) | h) | h
    rotate_left
    . exact (Bool.false_ne_true h).elim
    . obtain ⟨⟨y, l', kw⟩, e, hh⟩ := Wa h
      obtain ⟨p, pos, rfl⟩ := Va9 e
      simp only [Bool.and_eq_true, beq_iff_eq, Zc] at hh
      obtain ⟨⟨⟨⟨⟨⟨⟨hc, rfl⟩, h0⟩, h1, h2⟩, h3⟩, h4⟩, h5⟩, h6⟩ := hh
      obtain ⟨i, j, rfl, k1, k2, k3, k4, k5⟩ := Vcj h6
      obtain ⟨k, hr⟩ := C.room
      exact ⟨PE.wk (Xbo (ok.1 rfl) hr h0 (C.glb y h1) (C.blt y h2) (C.blt _ k5) (sE l C h3 ok.2.1).pe (Zh h4) h5 (by rw [C.N]; exact Wv k1) (by rw [C.N]; exact Wv k3) (C.clo _ (.inl k2)) (C.clo _ (.inl k4))) fun σ H Q q => q, Ye, Zj (fun _ _ _ z => by cases z)⟩
    . obtain ⟨⟨y, args⟩, e, hh⟩ := Wa h
      obtain ⟨p, pos, rfl⟩ := Xf e
      obtain ⟨r1, e2, h2⟩ := Wa hh
      cases Zr e2
      obtain ⟨⟨z, args2⟩, e3, h3⟩ := Wa h2
      obtain ⟨p2, pos2, e4⟩ := Xf e3
      simp only at e4
      subst e4
      obtain ⟨y', e5, h5⟩ := Wa h3
      cases Zr e5
      simp only [Bool.and_eq_true, beq_iff_eq, Zc] at h5
      obtain ⟨⟨⟨⟨⟨⟨⟨⟨hc, rfl⟩, k0⟩, k1, k2⟩, k3⟩, k4, k5⟩, k6⟩, k7⟩, k8⟩ := h5
      cases Xbd k8
      exact ⟨PE.wk (pe_denD (C.calm hc) k0 k3 (C.glb y k1) (C.glb z k4) (C.blt y k2) (C.blt z k5) (sE l C k6 ok.2.1).pe (Zh k7)) fun σ H Q q => q, Ye, Zj (fun _ _ _ z => by cases z)⟩
    exact (Bool.false_ne_true h).elim
  | .isin l t, X, c, a, C, h, ok => by
    have h : (opt (Vk a) fun q => opt (vTwo q.2) fun w => opt (W4 w.2) fun z => (q.1 == Str.ofString "isinstance") && Zc c q.1 && ["int", "bool", "str", "tuple", "list", "dict"].contains t && (z == Str.ofString t) && Zc c z && mE c l w.1 && notStar w.1) = true := h
    obtain ⟨⟨y, args⟩, e, hh⟩ := Wa h
    obtain ⟨p, pos, rfl⟩ := Xf e
    have h := hh
    obtain ⟨⟨l', zz⟩, e2, hh⟩ := Wa h
    obtain rfl := Xb4 e2
    have h := hh
    obtain ⟨z, e3, h⟩ := Wa h
    obtain ⟨p2, e4⟩ := Wn e3
    simp only at e4
    subst e4
    simp only [Bool.and_eq_true, beq_iff_eq, Zc] at h
    obtain ⟨⟨⟨⟨⟨⟨h0, h1, h2⟩, h3⟩, h4⟩, h5, h6⟩, h7⟩, h8⟩ := h
    have pe : PE X (.Call (.Name y p) [l', .Name z p2] [] pos) (LE X.K (wE (.isin l t))) := PE.wk (Wcc (sE l C h7 ok).pe h0 (by simpa using h3) h4 (C.glb y h1) (C.glb z h5) (C.blt y h2) (C.blt z h6) (Zh h8)) fun σ H Q q => q
    refine ⟨pe, PT.wk (Vu pe fun _ => rfl) fun σ H Q q => ?_, Zj (fun _ _ _ z => by cases z)⟩
    obtain ⟨ρ, θ, μ, Qd, s, q, f⟩ := q
    refine ⟨ρ, θ, μ, _, s, q, fun r H1 θ1 μ1 w1 g1 h1 => f r H1 θ1 μ1 w1 g1 h1⟩
  | .isin l t (some ks), X, c, a, C, h, ok => (Bool.false_ne_true h).elim
  | .lset l, X, c, a, C, h, ok => by
    have h : (opt (Vk a) fun q => opt (vOne q.2) fun r => opt (Vk r) fun t => opt (vOne t.2) fun x => c.calm && (q.1 == Str.ofString "len") && Zc c q.1 && (t.1 == Str.ofString "set") && Zc c t.1 && mE c l x && notStar x) = true := h
    obtain ⟨⟨y, args⟩, e, hh⟩ := Wa h
    obtain ⟨p, pos, rfl⟩ := Xf e
    have h := hh
    obtain ⟨r, e2, hh⟩ := Wa h
    obtain rfl := Zr e2
    have h := hh
    obtain ⟨⟨z, args2⟩, e3, hh⟩ := Wa h
    obtain ⟨p2, pos2, e4⟩ := Xf e3
    simp only at e4
    subst e4
    have h := hh
    obtain ⟨x, e5, h⟩ := Wa h
    obtain rfl := Zr e5
    simp only [Bool.and_eq_true, beq_iff_eq, Zc] at h
    obtain ⟨⟨⟨⟨⟨⟨hc, h0⟩, h1, h2⟩, h3⟩, h4, h5⟩, h6⟩, h7⟩ := h
    exact ⟨PE.wk (Ycc (C.calm hc) (sE l C h6 ok).pe h0 h3 (C.glb y h1) (C.glb z h4) (C.blt y h2) (C.blt z h5) (Zh h7)) fun σ H Q q => q, Ye, Zj (fun _ _ _ z => by cases z)⟩
  | .meth m o as, X, c, a, C, h, ok => by
    have h : (opt (Ybi a) fun t => (if t.2.2.1.isEmpty then ["pop"].contains m else ["append", "pop"].contains m) && t.2.1 == Str.ofString m && Vaz t.1 && t.2.2.2 && mE c o t.1 && mEs c as t.2.2.1 && decide (t.2.2.1.length < 30)) = true := h
    obtain ⟨⟨o', m', args, ln⟩, e, hh⟩ := Wa h
    obtain ⟨apos, pos, rfl, e2⟩ := Yak e
    have h := hh
    simp only [Bool.and_eq_true, beq_iff_eq] at h
    obtain ⟨⟨⟨⟨⟨⟨h0, h2⟩, h3⟩, h4⟩, h5⟩, h6⟩, h7⟩ := h
    have hline : (apos.endLine == pos.line) = true := by rw [<- e2]; exact h4
    refine ⟨?_, Ye, Zj (fun _ _ _ z => by cases z)⟩
    subst h2
    cases args with
    | nil =>
      have : as = .nil := by
        cases as with
        | nil => rfl
        | cons e es => exact (Bool.false_ne_true h6).elim
      subst this
      have h0' : m = "pop" := by simpa using h0
      rcases h0' with rfl
      . exact PE.wk (pe_bm0 PySem.F.plainAttrs_list PySem.F.slot_list_pop PySem.F.type_list_pop Za4 (sE o C h5 ok.1).pe (Xaj h3) hline) fun σ H Q q => Zch q
    | cons e es =>
      obtain ⟨hst, es', hes⟩ := Wq h6
      have h0' : m = "append" ∨ m = "pop" := by simpa using h0
      have h7' := of_decide_eq_true h7
      rcases h0' with rfl | rfl
      . exact PE.wk (pe_bm PySem.F.plainAttrs_list PySem.F.slot_list_append PySem.F.type_list_append Xav (sE o C h5 ok.1).pe (sEs as C h6 ok.2) (Xaj h3) (Xbv h6 h7') hline (Zh hst) (Yn hes)) fun σ H Q q => Vbr q
      . exact PE.wk (pe_bm PySem.F.plainAttrs_list PySem.F.slot_list_pop PySem.F.type_list_pop Za4 (sE o C h5 ok.1).pe (sEs as C h6 ok.2) (Xaj h3) (Xbv h6 h7') hline (Zh hst) (Yn hes)) fun σ H Q q => Vbr q
  | .sqm m o as, X, c, a, C, h, ok => by
    have h : (opt (Ybi a) fun t => ["pop"].contains m && t.2.1 == Str.ofString m && Vaz t.1 && t.2.2.2 && mE c o t.1 && mEs c as t.2.2.1 && decide (t.2.2.1.length < 30) && !t.2.2.1.isEmpty) = true := h
    obtain ⟨⟨o', m', args, ln⟩, e, hh⟩ := Wa h
    obtain ⟨apos, pos, rfl, e2⟩ := Yak e
    have h := hh
    simp only [Bool.and_eq_true, beq_iff_eq] at h
    obtain ⟨⟨⟨⟨⟨⟨⟨h0, h2⟩, h3⟩, h4⟩, h5⟩, h6⟩, h7⟩, h8⟩ := h
    have hline : (apos.endLine == pos.line) = true := by rw [<- e2]; exact h4
    suffices pe : PE X _ (LE X.K (wE (.sqm m o as))) from ⟨pe, Vu pe (fun _ => rfl), Zj (fun _ _ _ z => by cases z)⟩
    subst h2
    cases args with
    | nil => exact (Bool.false_ne_true h8).elim
    | cons e es =>
      obtain ⟨hst, es', hes⟩ := Wq h6
      have h0' : m = "pop" := by simpa using h0
      have h7' := of_decide_eq_true h7
      rcases h0' with rfl
      . exact PE.wk (pe_bm PySem.F.plainAttrs_dict PySem.F.slot_dict_pop PySem.F.type_dict_pop sqm_pop (sE o C h5 ok.1).pe (sEs as C h6 ok.2) (Xaj h3) (Xbv h6 h7') hline (Zh hst) (Yn hes)) fun σ H Q q => le_sqd (.inr rfl) q
  | .idx x y, X, c, a, C, h, ok => by
    have h : (opt (vSub a) fun t => mE c x t.1 && mE c y t.2 && Wi t.2) = true := h
    obtain ⟨⟨x', y'⟩, e, hh⟩ := Wa h
    obtain ⟨pos, rfl⟩ := V2 e
    have h := hh
    simp only [Bool.and_eq_true] at h
    have pe : PE X (.Subscript x' y' pos) (LE X.K (wE (.idx x y))) := PE.wk (pe_ix idx_ok (sE x C h.1.1 ok.1).pe (sE y C h.1.2 ok.2).pe (Zad h.2)) fun σ H Q q => Z0 q
    exact ⟨pe, PT.wk (Vu pe fun _ => rfl) fun σ H Q q => q, Zj (fun _ _ _ z => by cases z)⟩
  | .slc m x lo hi, X, c, a, C, h, ok => by
    have h : (opt (vSlc a) fun t => mE c x t.1 && mO c lo t.2.1 && mO c hi t.2.2) = true := h
    obtain ⟨⟨x', lo', hi'⟩, e, hh⟩ := Wa h
    obtain ⟨p2, pos, rfl⟩ := Wb4 e
    have h := hh
    simp only [Bool.and_eq_true] at h
    exact ⟨PE.wk (Vcb (slc_ok m) (sE x C h.1.1 ok.1).pe (sO lo C h.1.2 ok.2.1) (sO hi C h.2 ok.2.2)) fun σ H Q q => le_slc q, Ye, Zj (fun _ _ _ z => by cases z)⟩
  | .tup as, X, c, a, C, h, ok => by
    have h : (opt (vTup a) fun es => mEs c as es && decide (es.length <= 16777216)) = true := h
    obtain ⟨es, e, hh⟩ := Wa h
    obtain ⟨k, pos, rfl⟩ := Va1 e
    have h := hh
    simp only [Bool.and_eq_true] at h
    refine ⟨PE.wk (pe_tup (sEs as C h.1 ok)) fun σ H Q q => ?_, Ye, Zj (fun _ _ _ z => by cases z)⟩
    obtain ⟨ρ, θ, μ, Qd, s, q, f⟩ := q
    refine ⟨ρ, θ, μ, _, s, q, fun ds vs H1 θ1 μ1 w1 g1 r1 h1 => ⟨?_, fun p hp => X5 w1 (f.mono g1) r1 h1.2 hp⟩⟩
    rw [<- r1.length, <- V5]; exact h1.1
  | .lst m as, X, c, a, C, h, ok => by
    have h : (opt (vLst a) fun es => mEs c as es && decide (es.length <= 16777216)) = true := h
    obtain ⟨es, e, hh⟩ := Wa h
    obtain ⟨pos, rfl⟩ := Yb5 e
    have h := hh
    simp only [Bool.and_eq_true] at h
    refine ⟨PE.wk (pe_lst (sEs as C h.1 ok)) fun σ H Q q => ?_, Ye, Zj (fun _ _ _ z => by cases z)⟩
    obtain ⟨ρ, θ, μ, Qd, s, q, f⟩ := q
    refine ⟨ρ, θ, μ, _, s, q, fun ds vs H1 θ1 μ1 w1 g1 r1 h1 => ⟨?_, fun p hp => W5 w1 (f.mono g1) r1 h1.2 hp⟩⟩
    rw [<- r1.length, <- V5]; exact h1.1
  | .dsp ks as, X, c, a, C, h, ok => by
    replace h : mDsp ks as a = true := h
    unfold mDsp at h
    split at h
    . rename_i k i k' j jj jp pos
      simp only [Bool.and_eq_true, beq_iff_eq] at h
      obtain ⟨h1, rfl⟩ := h
      have hk : ∃ ke, k' = some ke /\ PE X ke (tC (kV (keyOf k))) := by
        unfold keyC at h1
        split at h1
        . have e := eq_of_beq h1
          subst e
          exact ⟨_, rfl, Vam⟩
        . rename_i st x _ _
          have e := of_decide_eq_true h1
          subst e
          refine ⟨_, rfl, ?_⟩
          have e2 : keyOf (.inr st.cps.toList) = .inr st := by simp [keyOf]
          rw [e2]
          exact pe_str
        . cases h1
      obtain ⟨ke, rfl, hk⟩ := hk
      refine ⟨PE.wk (Vcc hk Vam) fun σ H Q q => ?_, Ye, Zj (fun _ _ _ z => by cases z)⟩
      obtain ⟨ρ, θ, μ, Qd, s, q, f⟩ := q
      exact fun p hp => Wce s.wok f q.2 hp
    . cases h
  | .comp m n tt cap elt it cond, X, c, a, C, h, ok => by
    have h : (opt (vComp a) fun t => (c.calm || (Wat it && !tt)) && opt (Waf tt t.2.1) fun xs => opt (Zm c cap) fun cs => n == xs.length && Zaz c t.2.2.2.2 (xs ++ cs) cs && V8 tt it && mI c it t.2.2.1 && mTg (c.in_ (xs ++ cs) t.2.2.2.2.names) (List.range n) tt t.2.1 && mE (c.in_ (xs ++ cs) t.2.2.2.2.names) elt t.1 && mEs (c.in_ (xs ++ cs) t.2.2.2.2.names) cond t.2.2.2.1 && decide (t.2.2.2.1.length <= 1)) = true := h
    obtain ⟨⟨elt', tg, iter, ifs, scope⟩, e, hh⟩ := Wa h
    obtain ⟨pos, rfl⟩ := Xak e
    have h := hh
    simp only [Bool.and_eq_true] at h
    obtain ⟨hcm, h⟩ := h
    obtain ⟨xs, hxs, h⟩ := Wa h
    obtain ⟨cs, hcs, h⟩ := Wa h
    simp only [Bool.and_eq_true, beq_iff_eq] at h
    obtain ⟨⟨⟨⟨⟨⟨⟨hn, h1⟩, hz⟩, h2⟩, hg⟩, h3⟩, h4⟩, h5⟩ := h
    have h5 := of_decide_eq_true h5
    subst hn
    exact ⟨PE.wk (pe_comp (Xae C hcs h1) (sI it C h2 ok.2.1 (Zaf hg hz) (cmOr hcm)) (fun cl Ca s H ex => Xcb (Ys C h1 cl Ca s H ex) (cmTt hcm) hg) (fun cl Ca s H ex => sTs cond (Ys C h1 cl Ca s H ex) h4 h5 ok.2.2) (fun cl Ca s H ex => (sE elt (Ys C h1 cl Ca s H ex) h3 ok.1).pe) (X7 (mI_set h2))) fun σ H Q q => Zbs (tgn hxs) q, Ye, Zj (fun _ _ _ z => by cases z)⟩
  | .frz x, X, c, a, C, h, ok => by
    have S := sE x C h ok
    exact ⟨PE.wk (pe_frzD S.pe) fun σ H Q q => q, Ye, fun op vs pos e => fun wh pins s σ H Q I q => by obtain ⟨_, _, _, _, _, q, _⟩ := q; exact q.elim⟩
  | .frz x (some i), X, c, a, C, h, ok => by
    have S := sE x C h ok
    exact ⟨PE.wk (pe_frzT (i := i) S.pe) fun σ H Q q => q, Ye, fun op vs pos e => fun wh pins s σ H Q I q => by obtain ⟨_, _, _, _, _, q, _⟩ := q; exact q.elim⟩
  | .dget x y, X, c, a, C, h, ok => by
    have h : (opt (vSub a) fun t => c.calm && mE c x t.1 && mE c y t.2 && Wi t.2) = true := h
    obtain ⟨⟨x', y'⟩, e, hh⟩ := Wa h
    obtain ⟨pos, rfl⟩ := V2 e
    have h := hh
    simp only [Bool.and_eq_true] at h
    obtain ⟨⟨⟨hc, h1⟩, h2⟩, h3⟩ := h
    obtain ⟨k, hr⟩ := C.room
    exact ⟨PE.wk (Zcd (by have := hr.units; omega) (sE x C h1 ok.1).pe (sE y C h2 ok.2).pe (Zad h3)) fun σ H Q q => q, Ye, Zj (fun _ _ _ z => by cases z)⟩
  | .lrng m x rr, X, c, a, C, h, ok => by
    have h : (opt (Vk a) fun t => opt (vOne t.2) fun r => opt (Vk r) fun u => opt (vOne u.2) fun z => c.calm && (t.1 == Str.ofString (lrN m)) && Zc c t.1 && (u.1 == Str.ofString (lrM rr)) && Zc c u.1 && notStar r && mE c x z && notStar z && !rr && m.isSome) = true := h
    obtain ⟨⟨y, args⟩, e, hh⟩ := Wa h
    obtain ⟨p, pos, rfl⟩ := Xf e
    obtain ⟨r, e2, h2⟩ := Wa hh
    cases Zr e2
    obtain ⟨⟨y2, args2⟩, e3, h3⟩ := Wa h2
    obtain ⟨p2, pos2, rfl⟩ := Xf e3
    obtain ⟨z, e4, h4⟩ := Wa h3
    cases Zr e4
    simp only [Bool.and_eq_true, beq_iff_eq, Zc] at h4
    obtain ⟨⟨⟨⟨⟨⟨⟨⟨⟨hc, k0⟩, k1, k2⟩, k3⟩, k4, k5⟩, k6⟩, k7⟩, k8⟩, k9⟩, k10⟩ := h4
    cases rr with
    | false =>
     cases m with
     | some m => exact ⟨PE.wk (pe_lrng (m := m) (C.calm hc) k0 k3 (C.glb y k1) (C.blt y k2) (C.glb y2 k4) (C.blt y2 k5) (sE x C k7 ok).pe (by rw [Zh k8]; rfl) (by rw [Zh k6]; rfl)) fun σ H Q q => q, Ye, Zj (fun _ _ _ z => by cases z)⟩
     | none => cases k10
    | true => cases k9
theorem sEs:∀ (es:Es) {X:Cx} {c:Ctx} {as:List Expr},CtxOk X c->mEs c es as=true->okEs (Vv X) (Vq X) es->PA X as (LA X.K (wEs es))
 | .nil,X,c,as,C,h,_=>by
  have:as=[]:=by simpa [mEs] using h
  subst this
  exact PA.wk pa_nilD fun σ H Q q=>q
 | .cons e es,X,c,as,C,h,ok=>by
  cases as with
  | nil=>simp [mEs] at h
  | cons a as =>
   simp only [mEs,Bool.and_eq_true] at h
   exact PA.wk (Vcd (sE e C h.1.1 ok.1).pe (sEs es C h.2 ok.2) (Zh h.1.2)) fun σ H Q q=>q
theorem sO:∀ (es:Es) {X:Cx} {c:Ctx} {a:Option Expr},CtxOk X c->mO c es a=true->okEs (Vv X) (Vq X) es->PO X a (LO X.K (wO es))
 | .nil,X,c,a,C,h,_=>by
  cases a with
  | none=>exact fun pins s σ H Q I q=>Xca pins s σ H Q I q
  | some _=>simp [mO] at h
 | .cons e es,X,c,a,C,h,ok=>by
  cases a with
  | none=>simp [mO] at h
  | some a =>
   cases es with
   | nil=>exact fun pins s σ H Q I q=>Yca (sE e C (by simpa [mO] using h) ok.1).pe pins s σ H Q I q
   | cons _ _=>simp [mO] at h
theorem sTs:∀ (es:Es) {X:Cx} {c:Ctx} {as:List Expr},CtxOk X c->mEs c es as=true->as.length<=1->okEs (Vv X) (Vq X) es->PIf X as (LT X.K (wTs es))
 | .nil,X,c,as,C,h,_,_=>by
  have:as=[]:=by simpa [mEs] using h
  subst this
  intro pins s σ H Q I q
  obtain ⟨ρ,θ,μ,Qd,sm,q,f⟩:=q
  exact pif_nil pins s σ H Q I (f true H θ μ sm.wok Grow.refl q)
 | .cons e es,X,c,as,C,h,hl,ok=>by
  cases as with
  | nil=>simp [mEs] at h
  | cons a as =>
   simp only [mEs,Bool.and_eq_true] at h
   have:as=[]:=by
    cases as with
    | nil=>rfl
    | cons _ _=>simp at hl
   subst this
   have:es = .nil:=by
    cases es with
    | nil=>rfl
    | cons _ _=>simp [mEs] at h
   subst this
   have S:=sE e C h.1.1 ok.1
   intro pins s σ H Q I q
   refine pif_one S.pt pins s σ H Q I ?_
   obtain ⟨ρ,θ,μ,Qd,sm,q,f⟩:=q
   exact ⟨ρ,θ,μ,Qd,sm,q,f⟩
theorem sI:∀ (it:It) {X:Cx} {c:Ctx} {a tg:Expr},CtxOk X c->mI c it a=true->okI (Vv X) (Vq X) it->V8 (isTup tg) it=true->(c.calm=true∨Wat it=true)->PI X tg a (LI X.K (wI it))
 | .seq e,X,c,a,tg,C,h,ok,_,hcm=>by
  simp only [mI,Bool.and_eq_true] at h
  exact fun pins s σ H R I q=>pi_seqD (C.calm (hcm.resolve_right Bool.false_ne_true)) (sE e C h.1 ok).pe pins s σ H R I q
 | .rng as,X,c,a,tg,C,h,ok,_,hcm=>by
  have h:(opt (Vk a) fun t=>(t.1 == Str.ofString "range") && Zc c t.1 && mEs c as t.2 && (t.2.length == 1))=true:=h
  obtain ⟨⟨y,args⟩,e,hh⟩:=Wa h
  obtain ⟨p,pos,rfl⟩:=Xf e
  have h:=hh
  simp only [Bool.and_eq_true,Bool.or_eq_true,beq_iff_eq,Zc] at h
  obtain ⟨⟨⟨h0,h1,h2⟩,h3⟩,h4⟩:=h
  have hA:=sEs as C h3 ok
  have hl:=Ya6 h3
  match args,h3,h4,hA,hl with
  | [a1],h3,_,hA,hl =>
   have k1:=(Wq h3).1
   exact fun pins s σ H R I q=>Vca h0 (C.glb y h1) (C.blt y h2) hA (by rw [Zh k1]; rfl) pins s σ H R I (by simp only [wI,hl] at q; exact q)
  | [],_,h4,_,_=>simp at h4
  | _ :: _ :: _,_,h4,_,_=>simp at h4
 | .enum l,X,c,a,tg,C,h,ok,ht,hcm=>by
  have h:(opt (Vk a) fun t=>match t.2 with | [l']=>(t.1 == Str.ofString "enumerate") && Zc c t.1 && mE c l l' && notStar l' | _=>false)=true:=h
  obtain ⟨⟨y,args⟩,e,hh⟩:=Wa h
  obtain ⟨p,pos,rfl⟩:=Xf e
  have h:=hh
  match args,h with
  | [l'],h =>
   simp only [Bool.and_eq_true,beq_iff_eq,Zc] at h
   obtain ⟨⟨⟨h0,h1,h2⟩,h3⟩,h5⟩:=h
   simp only [V8] at ht
   cases tg with
   | Tuple es k tp=>exact fun pins s σ H R I q=>Zcb (C.calm (hcm.resolve_right Bool.false_ne_true)) h0 (C.glb _ h1) (C.blt _ h2) (sE l C h3 ok).pe (by rw [Zh h5]; rfl) pins s σ H R I q
   | _=>exact (Bool.false_ne_true ht).elim
  | [],h=>exact (Bool.false_ne_true h).elim
  | _ :: _ :: _,h=>exact (Bool.false_ne_true h).elim
end
end DW
end
section
set_option maxHeartbeats 4000000
namespace DW
open PySem PySem.Spec PyProof.Rows L2
theorem Va2 {t e:Expr} {n:Nat} {env:Env} (h:Xi e=true):swapsWithSole [t] e n env=pure false:=Vaf h
theorem Zbg {o i:Expr} {pos:Pos} {env:Env} (h:Wi i=true):∀ v,assign (.Subscript o i pos) env v=(do
   let ov <- holding [v] (eval o env)
   let iv <- holding [v,ov] (eval i env)
   standAt pos
   holding [v,ov,iv] (setItem ov iv v)
   release [v,ov,iv] []):=by
 intro v
 cases i <;> first | rfl | exact (Bool.false_ne_true h).elim
section
variable {X:Cx} {EX:L2.St->XK}
theorem Zbr {i:Nat} {we:WE} {D:Ends} {σ:L2.St} {H:Hp} (h:LS X.K EX (fun Z ρ μ=>we ρ μ fun d μ1=>Z.nx (ρ.set i (some d)) μ1) D σ H):tAsg (LE X.K we) (Wbu i) D σ H:=by
 obtain ⟨ρ,θ,μ,Z,s,h,f⟩:=h
 exact ⟨ρ,θ,μ,_,s,h,fun d v H1 θ1 μ1 w1 g1 r1 h1=>f.nx _ H1 _ θ1 μ1 ((s.grow w1 g1).set r1 i) g1 h1⟩
theorem ls_asg {bnd:D->Rho->(Rho->Prop)->Prop} {we:WE} {D:Ends} {σ:L2.St} {H:Hp} (h:LS X.K EX (fun Z ρ μ=>we ρ μ fun d μ1=>bnd d ρ fun ρ'=>Z.nx ρ' μ1) D σ H):tAsg (LE X.K we) (LG X.K bnd) D σ H:=by
 obtain ⟨ρ,θ,μ,Z,s,h,f⟩:=h
 exact ⟨ρ,θ,μ,_,s,h,fun d v H1 θ1 μ1 w1 g1 r1 h1=>⟨d,ρ,θ1,μ1,_,s.grow w1 g1,r1,h1,fun σ' ρ' s' q=>f.nx σ' H1 ρ' θ1 μ1 s' g1 q⟩⟩
theorem Ycg {wo wi we:WE} {D:Ends} {σ:L2.St} {H:Hp} (h:LS X.K EX (fun Z ρ μ=>we ρ μ fun v μ1=>wo ρ μ1 fun x μ2=>wi ρ μ2 fun y μ3=>Zab x y v μ3 fun μ4=>Z.nx ρ μ4) D σ H) :
  tAsg (LE X.K we) (gSub (LE X.K wo) (LE X.K wi) (fun o i v H Q=>∃ x y z θ μ k,WOk X.K H θ μ/\Rp X.K H θ μ x o/\Rp X.K H θ μ y i/\Rp X.K H θ μ z v/\Zab x y z μ k/\∀ H' μ',WOk X.K H' θ μ'->Grow H θ μ H' θ μ'->k μ'->Q H')) D σ H:=by
 obtain ⟨ρ,θ,μ,Z,s,h,f⟩:=h
 refine ⟨ρ,θ,μ,_,s,h,fun d v H1 θ1 μ1 w1 g1 r1 h1=>⟨ρ,θ1,μ1,_,s.grow w1 g1,h1,fun x vx H2 θ2 μ2 w2 g2 r2 h2=>⟨ρ,θ2,μ2,_,s.grow w2 (g1.trans g2),h2,fun y vy H3 θ3 μ3 w3 g3 r3 h3=>?_⟩⟩⟩
 exact ⟨x,y,d,θ3,μ3,_,w3,g3.rep r2,r3,(g2.trans g3).rep r1,h3,fun H4 μ4 w4 g4 q=>f.nx σ H4 ρ θ3 μ4 (s.grow w4 (((g1.trans g2).trans g3).trans g4)) (((g1.trans g2).trans g3).trans g4) q⟩
theorem Zal {tg v:Expr} {env:Env} (h:Y5 v=true):swappedStores [tg] v env=pure none:=by
 unfold swappedStores
 cases tg <;> first | rfl | (cases v <;> first | rfl | exact (Bool.false_ne_true h).elim)
end
structure SCtx (X:Cx) (EX:L2.St->XK) (c:Ctx):Prop extends CtxOk X c where
 mt:Meets X EX
 lv:c.rs=true->∃ E,Leaves X E/\EX=fun _=>E
 st:c.calm=true->X.ex=[]/\X.stack=X.env :: X.outer/\X.env.frame=some X.env.locals
noncomputable def never:L2.St->XK:=fun _ _ _ _=>False
mutual
theorem sS:∀ (st:S) {X:Cx} {EX:L2.St->XK} {c:Ctx} {a:Stmt},SCtx X EX c->mS c st a=true->okS (Vv X) (Vq X) st->PS X a (LS X.K EX (wS st))
 | .set i e,X,EX,c,a,C,h,ok=>by
  replace h:(opt (uAsg a) fun t=>opt (W4 t.1) fun x=>c.at_ i x && c.loc x && mE c e t.2 && (Xi t.2 || Xaw e))=true:=h
  obtain ⟨⟨tg,v⟩,e1,hh⟩:=Wa h
  obtain ⟨x,e2,hh⟩:=Wa hh
  obtain ⟨p,rfl⟩:=Wn (a:=tg) e2
  obtain ⟨pos,rfl⟩:=Z3 e1
  replace h:=hh
  simp only [Bool.and_eq_true] at h
  obtain ⟨⟨⟨h1,h2⟩,h3⟩,h4⟩:=h
  obtain ⟨l1,l2⟩:=C.loc x h2
  have hN:X.N.Nodup:=by rw [C.N]; exact C.nd
  have hi:X.N[i]? = some x:=by rw [C.N]; exact Wv h1
  have S:=sE e C.toCtxOk h3 ok
  by_cases hn:Xi v=true
  ·exact PS.wk (ps_set hN hi l1 S.pe (Vaf hn) l2) fun D σ H q=>Zbr q
  ·have h4:Xaw e=true:=by
    rcases Bool.or_eq_true_iff.mp h4 with z | z
    ·exact absurd z hn
    ·exact z
   cases e with
   | comp m n tt cap elt it cond =>
    have hv:mE c (.comp m n tt cap elt it cond) v=true->∃ elt' tg iter ifs scope vpos,v = .ListComp elt' [⟨tg,iter,ifs,0⟩] scope vpos/\((c.calm || (Wat it && !tt)) && opt (Waf tt tg) fun xs=>opt (Zm c cap) fun cs=>n == xs.length && Zaz c scope (xs ++ cs) cs && V8 tt it && mI c it iter && mTg (c.in_ (xs ++ cs) scope.names) (List.range n) tt tg && mE (c.in_ (xs ++ cs) scope.names) elt elt' && mEs (c.in_ (xs ++ cs) scope.names) cond ifs && decide (ifs.length<=1))=true:=fun z=>by
     obtain ⟨⟨elt',tg,iter,ifs,scope⟩,e,hh⟩:=Wa z
     obtain ⟨vpos,e⟩:=Xak e
     exact ⟨elt',tg,iter,ifs,scope,vpos,e,hh⟩
    obtain ⟨elt',tg,iter,ifs,scope,vpos,rfl,h9⟩:=hv h3
    replace h3:=h9
    have hsw:swapsWith (.ListComp elt' [⟨tg,iter,ifs,0⟩] scope vpos) (some (.Name x p)) pos.line X.env=pure (X.env.blockKind == .function && X.env.kindOf x == some .local && p.line == (Expr.ListComp elt' [⟨tg,iter,ifs,0⟩] scope vpos).pos.line && !(scope.names.any fun (n,k)=>n == x && (k == .local || k == .cell))):=rfl
    cases hb:(X.env.blockKind == .function && X.env.kindOf x == some .local && p.line == (Expr.ListComp elt' [⟨tg,iter,ifs,0⟩] scope vpos).pos.line && !(scope.names.any fun (n,k)=>n == x && (k == .local || k == .cell))) with
    | false =>
     rw [hb] at hsw
     exact PS.wk (ps_set hN hi l1 S.pe hsw l2) fun D σ H q=>Zbr q
    | true =>
     rw [hb] at hsw
     have hl:X.env.scope.names.lookup x=some .local:=by
      simp only [Bool.and_eq_true,beq_iff_eq] at hb
      exact hb.1.1.2
     simp only [Bool.and_eq_true] at h3
     obtain ⟨hcm,h3⟩:=h3
     obtain ⟨xs,hxs,h3⟩:=Wa h3
     obtain ⟨cs,hcs,h3⟩:=Wa h3
     simp only [Bool.and_eq_true,beq_iff_eq] at h3
     obtain ⟨⟨⟨⟨⟨⟨⟨hn,k1⟩,kz⟩,k2⟩,kg⟩,k3⟩,k4⟩,k5⟩:=h3
     have k5:=of_decide_eq_true k5
     subst hn
     have ok':okE (Vv X) (Vq X) elt/\okI (Vv X) (Vq X) it/\okEs (Vv X) (Vq X) cond:=ok
     refine PS.wk (Ybb (gt:=LG X.K fun d r k=>Zq (List.range xs.length) tt d r k) (tt:=LT X.K (wTs cond)) (te:=LE X.K (wE elt)) (wi:=LI X.K (wI it)) (Xae C.toCtxOk hcs k1) (sI it C.toCtxOk k2 ok'.2.1 (Zaf kg kz) (cmOr hcm)) (fun cl Ca s H ex=>Xcb (Ys C.toCtxOk k1 cl Ca s H ex) (cmTt hcm) kg) (fun cl Ca s H ex=>sTs cond (Ys C.toCtxOk k1 cl Ca s H ex) k4 k5 ok'.2.2) (fun cl Ca s H ex=>(sE elt (Ys C.toCtxOk k1 cl Ca s H ex) k3 ok'.1).pe) (X7 (mI_set k2)) hN hi hl hsw) fun D σ H q=>?_
     have q:=Zbr (we:=wE (.comp m xs.length tt cap elt it cond)) q
     exact Zbs (tgn hxs) q
   | _=>cases h4
 | .setT is e,X,EX,c,a,C,h,ok=>by
  replace h:(opt (uAsg a) fun t=>opt (vTup t.1) fun ts=>c.calm && Vl c is ts && mE c e t.2 && Xi t.2 && Y5 t.2)=true:=h
  obtain ⟨⟨tg,v⟩,e1,hh⟩:=Wa h
  obtain ⟨ts,e2,hh⟩:=Wa hh
  obtain ⟨k,p,rfl⟩:=Va1 (a:=tg) e2
  obtain ⟨pos,rfl⟩:=Z3 e1
  replace h:=hh
  simp only [Bool.and_eq_true] at h
  obtain ⟨⟨⟨⟨hcm,h1⟩,h2⟩,h3⟩,h4⟩:=h
  have S:=sE e C.toCtxOk h2 ok
  exact PS.wk (ps_asg S.pe (Xcb C.toCtxOk (is:=is) (tt:=true) (fun _=>hcm) h1) (Va2 h3) (Zal h4) rfl) fun D σ H q=>ls_asg q
 | .dput o i e,X,EX,c,a,C,h,ok=>by
  replace h:(opt (uAsg a) fun t=>opt (vSub t.1) fun u=>c.calm && mE c o u.1 && mE c i u.2 && Wi u.2 && mE c e t.2 && Xi t.2)=true:=h
  obtain ⟨⟨tg,v⟩,e1,hh⟩:=Wa h
  obtain ⟨⟨o',i'⟩,e2,hh⟩:=Wa hh
  obtain ⟨p,rfl⟩:=V2 (a:=tg) e2
  obtain ⟨pos,rfl⟩:=Z3 e1
  replace h:=hh
  simp only [Bool.and_eq_true] at h
  obtain ⟨⟨⟨⟨⟨hc,h1⟩,h2⟩,h3⟩,h4⟩,h5⟩:=h
  obtain ⟨k,hr⟩:=C.room
  exact PS.wk (Zca (by have:=hr.units; omega) (sE o C.toCtxOk h1 ok.1).pe (sE i C.toCtxOk h2 ok.2.1).pe (sE e C.toCtxOk h4 ok.2.2).pe (Vaf h5)) fun D σ H q=>q
 | .setIx o i e,X,EX,c,a,C,h,ok=>by
  replace h:(opt (uAsg a) fun t=>opt (vSub t.1) fun u=>mE c o u.1 && mE c i u.2 && Wi u.2 && mE c e t.2 && Xi t.2)=true:=h
  obtain ⟨⟨tg,v⟩,e1,hh⟩:=Wa h
  obtain ⟨⟨o',i'⟩,e2,hh⟩:=Wa hh
  obtain ⟨p,rfl⟩:=V2 (a:=tg) e2
  obtain ⟨pos,rfl⟩:=Z3 e1
  replace h:=hh
  simp only [Bool.and_eq_true] at h
  obtain ⟨⟨⟨⟨h1,h2⟩,h3⟩,h4⟩,h5⟩:=h
  exact PS.wk (ps_asg (sE e C.toCtxOk h4 ok.2.2).pe (pg_sub (sE o C.toCtxOk h1 ok.1).pe (sE i C.toCtxOk h2 ok.2.1).pe Zb8 (Zbg h3)) (Va2 h5) (by cases v <;> rfl) rfl) fun D σ H q=>Ycg q
 | .aug i op e,X,EX,c,a,C,h,ok=>by
  replace h:(opt (uAug a) fun t=>opt (W4 t.1) fun x=>c.at_ i x && c.loc x && op == t.2.1 && (op == .Add || op == .Sub) && mE c e t.2.2)=true:=h
  obtain ⟨⟨tg,op',v⟩,e1,hh⟩:=Wa h
  obtain ⟨x,e2,hh⟩:=Wa hh
  obtain ⟨p,rfl⟩:=Wn (a:=tg) e2
  obtain ⟨pos,rfl⟩:=Wb6 e1
  replace h:=hh
  simp only [Bool.and_eq_true,Bool.or_eq_true,beq_iff_eq] at h
  obtain ⟨⟨⟨⟨h1,h2⟩,rfl⟩,h4⟩,h5⟩:=h
  obtain ⟨l1,l2⟩:=C.loc x h2
  have hN:X.N.Nodup:=by rw [C.N]; exact C.nd
  have hi:X.N[i]? = some x:=by rw [C.N]; exact Wv h1
  have S:=sE e C.toCtxOk h5 ok
  have key:∀ (g:Int->Int->Int) (D:Ends) (σ:L2.St) (H:Hp) (ρ:Rho) (θ:List Addr) (μ:Mem) (Z:DEnds) (p':Int),Sim X.K σ H ρ θ μ->FinS X.K EX H θ μ Z D->ρ[i]? = some (some (.int p')) ->
    (wE e ρ μ fun y μ1=>wInt y μ1 fun q' μ2=>Z.nx (ρ.set i (some (.int (g p' q')))) μ2)->tAug i (LE X.K (wE e)) (ipI g) D σ H:=fun g D σ H ρ θ μ Z p' sm f hp q=>by
   obtain ⟨v,e1,r⟩:=sm.val i _ hp
   cases Yb r
   refine ⟨_,e1,ρ,θ,μ,_,sm,q,fun y vy H1 θ1 μ1 w1 g1 r1 h1=>?_⟩
   cases y with
   | int q'=>exact ⟨p',q',rfl,Yb r1,f.nx _ H1 _ θ1 μ1 ((sm.grow w1 g1).set Vd i) g1 h1⟩
   | _=>exact h1.elim
  rcases h4 with rfl | rfl
  ·refine PS.wk (ps_aug hN hi l1 S.pe ip_add l2) fun D σ H q=>?_
   obtain ⟨ρ,θ,μ,Z,sm,q,f⟩:=q
   simp only [wS] at q
   split at q
   ·rename_i p' hd; exact key _ D σ H ρ θ μ Z p' sm f hd q
   ·exact q.elim
  ·refine PS.wk (ps_aug hN hi l1 S.pe ip_sub l2) fun D σ H q=>?_
   obtain ⟨ρ,θ,μ,Z,sm,q,f⟩:=q
   simp only [wS] at q
   split at q
   ·rename_i p' hd; exact key _ D σ H ρ θ μ Z p' sm f hd q
   ·exact q.elim
 | .exp e,X,EX,c,a,C,h,ok=>by
  replace h:(opt (uExp a) fun v=>mE c e v && Xi v)=true:=h
  obtain ⟨v,e1,hh⟩:=Wa h
  obtain ⟨pos,rfl⟩:=Xb6 e1
  replace h:=hh
  simp only [Bool.and_eq_true] at h
  refine PS.wk (ps_expr (sE e C.toCtxOk h.1 ok).pe (Vaf h.2)) fun D σ H q=>?_
  obtain ⟨ρ,θ,μ,Z,s,q,f⟩:=q
  exact ⟨ρ,θ,μ,_,s,q,fun d v H1 θ1 μ1 w1 g1 r1 h1=>f.nx σ H1 ρ θ1 μ1 (s.grow w1 g1) g1 h1⟩
 | .ret e,X,EX,c,a,C,h,ok=>by
  replace h:(opt (uRet a) fun o=>opt o fun v=>mE c e v)=true:=h
  obtain ⟨o,e1,hh⟩:=Wa h
  obtain ⟨v,rfl,hh⟩:=Wa hh
  obtain ⟨pos,rfl⟩:=Zb6 e1
  replace h:=hh
  refine PS.wk (ps_ret (sE e C.toCtxOk h ok).pe) fun D σ H q=>?_
  obtain ⟨ρ,θ,μ,Z,s,q,f⟩:=q
  exact ⟨ρ,θ,μ,_,s,q,f.rt⟩
 | .ite t x y,X,EX,c,a,C,h,ok=>by
  replace h:(opt (uIf a) fun u=>mE c t u.1 && mSs c x u.2.1 && mSs c y u.2.2)=true:=h
  obtain ⟨⟨t',x',y'⟩,e1,hh⟩:=Wa h
  obtain ⟨pos,rfl⟩:=uIf_inv e1
  replace h:=hh
  simp only [Bool.and_eq_true] at h
  refine PS.wk (ps_if (sE t C.toCtxOk h.1.1 ok.1).pt (sSs x C h.1.2 ok.2.1) (sSs y C h.2 ok.2.2)) fun D σ H q=>?_
  obtain ⟨ρ,θ,μ,Z,s,q,f⟩:=q
  refine ⟨ρ,θ,μ,_,s,q,fun b H1 θ1 μ1 w1 g1 h1=>?_⟩
  cases b with
  | true=>exact ⟨ρ,θ1,μ1,Z,s.grow w1 g1,h1,f.mono g1⟩
  | false=>exact ⟨ρ,θ1,μ1,Z,s.grow w1 g1,h1,f.mono g1⟩
 | .for_ is tt it b,X,EX,c,a,C,h,ok=>by
  replace h:(opt (uFor a) fun u=>c.calm && mTg c is tt u.1 && mI c it u.2.1 && mSs c b u.2.2 && Vj u.2.1 && V8 tt it)=true:=h
  obtain ⟨⟨t',i',b'⟩,e1,hh⟩:=Wa h
  obtain ⟨pos,rfl⟩:=Yb6 e1
  replace h:=hh
  simp only [Bool.and_eq_true] at h
  obtain ⟨⟨⟨⟨⟨hcm,h1⟩,h2⟩,h3⟩,h4⟩,hz⟩:=h
  exact PS.wk (ps_forD C.pas (C.calm hcm) (sI it C.toCtxOk h2 ok.1 (Zaf h1 hz) (.inl hcm)) (Xcb C.toCtxOk (fun _=>hcm) h1) (sSs b C h3 ok.2) (X7 h4)) fun D σ H q=>q
 | .whl t b,X,EX,c,a,C,h,ok=>by
  replace h:(opt (uWhl a) fun u=>mE c t u.1 && mSs c b u.2)=true:=h
  obtain ⟨⟨t',b'⟩,e1,hh⟩:=Wa h
  obtain ⟨pos,rfl⟩:=Vb5 e1
  replace h:=hh
  simp only [Bool.and_eq_true] at h
  exact PS.wk (ps_whlD C.pas (sE t C.toCtxOk h.1 ok.1).pt (sSs b C h.2 ok.2)) fun D σ H q=>q
 | .nev,X,EX,c,a,C,h,ok=>fun pins s σ H D I q=>by
  obtain ⟨ρ,θ,μ,Z,sm,q,f⟩:=q
  exact q.elim
theorem sSs:∀ (st:Ss) {X:Cx} {EX:L2.St->XK} {c:Ctx} {as:List Stmt},SCtx X EX c->mSs c st as=true->okSs (Vv X) (Vq X) st->PSs X as (LS X.K EX (wSs st))
 | .nil,X,EX,c,as,C,h,_=>by
  have:as=[]:=by simpa [mSs] using h
  subst this
  refine PSs.wk pss_nil fun D σ H q=>?_
  obtain ⟨ρ,θ,μ,Z,s,q,f⟩:=q
  exact f.nx σ H ρ θ μ s Grow.refl q
 | .cons s r,X,EX,c,as,C,h,ok=>by
  cases as with
  | nil=>simp [mSs] at h
  | cons a as =>
   simp only [mSs,Bool.and_eq_true] at h
   refine PSs.wk (Wb9 (sS s C h.1 ok.1) (sSs r C h.2 ok.2)) fun D σ H q=>?_
   obtain ⟨ρ,θ,μ,Z,sm,q,f⟩:=q
   refine ⟨ρ,θ,μ,_,sm,q,⟨fun σ' H' ρ' θ' μ' s' g' z=>⟨ρ',θ',μ',Z,s',z,f.mono g'⟩,f.rt,f.bk,f.ct,f.xc⟩⟩
end
end DW
end
section
set_option maxHeartbeats 2000000
namespace DW
open PySem PySem.Spec PyProof.Rows L2
structure Top where
 P:Program
 w:World
 K:PySem.W.Frag
 mg:Str->Option Value
 base:Heap
noncomputable def FnLev (T:Top) (k:Nat):Rf->DSp->Prop
 | .fn x,sp=>∃ (fa:Addr) (fd:FuncData) (ps:List Str),T.mg x=some (.ref fa)/\PySem.W.keepIn T.K (.ref fa)=true/\Binds T.K fd ps []/\FnOk T.P T.w T.K T.mg T.base (CXE T.P T.w) k fa fd ps (low T.K sp)
 | .mth c m,sp=>∃ (C fa:Addr) (fd:FuncData) (ps:List Str),PySem.W.nsIn T.K mainGlobals (Str.ofString c)=some (some (.ref C))/\Cls T.K C/\Meth T.K C (Str.ofString m) fa/\Binds T.K fd ps []/\FnOk T.P T.w T.K T.mg T.base (CXE T.P T.w) k fa fd ps (low T.K sp)
 | .mk c,sp=>∃ (C fa:Addr) (fd:FuncData) (ps:List Str) (j:Nat),PySem.W.nsIn T.K mainGlobals (Str.ofString c)=some (some (.ref C))/\T.mg (Str.ofString c)=some (.ref C)/\Mk T.K C fa/\Binds T.K fd ps []/\FnOk T.P T.w T.K T.mg T.base (CXE T.P T.w) j fa fd ps (low T.K sp)/\j + 1<=k
 | .fld c f,_=>∃ C:Addr,PySem.W.nsIn T.K mainGlobals (Str.ofString c)=some (some (.ref C))/\Cls T.K C/\Yas T.K C (Str.ofString f)
 | .fnX x sp,_=>∃ (fa:Addr) (fd:FuncData) (ps:List Str),T.mg x=some (.ref fa)/\PySem.W.keepIn T.K (.ref fa)=true/\Binds T.K fd ps []/\FnOk T.P T.w T.K T.mg T.base (CXE T.P T.w) k fa fd ps (lowX T.K sp)
 | .mthX c m sp,_=>∃ (C fa:Addr) (fd:FuncData) (ps:List Str),PySem.W.nsIn T.K mainGlobals (Str.ofString c)=some (some (.ref C))/\Cls T.K C/\Meth T.K C (Str.ofString m) fa/\Binds T.K fd ps []/\FnOk T.P T.w T.K T.mg T.base (CXE T.P T.w) k fa fd ps (lowX T.K sp)
 | .mkX c sp,_=>∃ (C fa:Addr) (fd:FuncData) (ps:List Str) (j:Nat),PySem.W.nsIn T.K mainGlobals (Str.ofString c)=some (some (.ref C))/\T.mg (Str.ofString c)=some (.ref C)/\Mk T.K C fa/\Binds T.K fd ps []/\FnOk T.P T.w T.K T.mg T.base (CXE T.P T.w) j fa fd ps (lowX T.K sp)/\j + 1<=k
 | .fnM x,sp=>∃ (fa:Addr) (fd:FuncData) (ps:List Str),T.mg x=some (.ref fa)/\PySem.W.keepIn T.K (.ref fa)=true/\Binds T.K fd ps []/\FnOk T.P T.w T.K T.mg T.base (CXE T.P T.w) 15 fa fd ps (low T.K sp)/\15<=k
 | .rsi c ks,_=>IniAt T.P T.w T.K T.mg T.base c ks/\2<=k
 | .efl f tab,_=>EflAt T.K f tab
 | .rse c,_=>RseAt T.K T.mg c
 | .lam,_=>False
 | .din x ks,_=>DinAt T.K T.mg x ks
 | .dsp x ks sp,_=>DspAt T.P T.w T.K T.mg T.base k x ks sp
 | .hdl P tab,_=>HdlAt T.K T.mg P tab
 | .isx tt ts tab,_=>IsxAt T.K T.mg tt ts tab
noncomputable abbrev FnTop (T:Top) (k:Nat):Rf->DSp->Prop:=FnLev T (k + 16)
noncomputable def Wd (T:Top) (x:Str) (d:D):Prop:=∃ (u:Value) (v:V),T.mg x=some u/\RelV v u/\∀ H θ μ,Rp T.K H θ μ d v
theorem FnLev.up {T:Top} {j k:Nat} {x:Rf} {sp:DSp} (h:FnLev T j x sp) (hk:j<=k):FnLev T k x sp:=by
 cases x with
 | fn x =>
  obtain ⟨fa,fd,ps,h1,h2,h3,h4⟩:=h
  exact ⟨fa,fd,ps,h1,h2,h3,h4.mono hk⟩
 | mth c m =>
  obtain ⟨C,fa,fd,ps,h0,h1,h2,h3,h4⟩:=h
  exact ⟨C,fa,fd,ps,h0,h1,h2,h3,h4.mono hk⟩
 | mk c =>
  obtain ⟨C,fa,fd,ps,i,h0,h1,h2,h3,h4,h5⟩:=h
  exact ⟨C,fa,fd,ps,i,h0,h1,h2,h3,h4,Nat.le_trans h5 hk⟩
 | fld c f=>exact h
 | fnX x sp =>
  obtain ⟨fa,fd,ps,h1,h2,h3,h4⟩:=h
  exact ⟨fa,fd,ps,h1,h2,h3,h4.mono hk⟩
 | mthX c m sp =>
  obtain ⟨C,fa,fd,ps,h0,h1,h2,h3,h4⟩:=h
  exact ⟨C,fa,fd,ps,h0,h1,h2,h3,h4.mono hk⟩
 | mkX c sp =>
  obtain ⟨C,fa,fd,ps,i,h0,h1,h2,h3,h4,h5⟩:=h
  exact ⟨C,fa,fd,ps,i,h0,h1,h2,h3,h4,Nat.le_trans h5 hk⟩
 | fnM x =>
  obtain ⟨fa,fd,ps,h1,h2,h3,h4,h5⟩:=h
  exact ⟨fa,fd,ps,h1,h2,h3,h4,Nat.le_trans h5 hk⟩
 | rsi c ks=>exact ⟨h.1,Nat.le_trans h.2 hk⟩
 | efl f tab=>exact h
 | rse c=>exact h
 | lam=>exact h.elim
 | din x ks=>exact h
 | dsp x ks sp =>
  obtain ⟨a,h1,h2,h3,h4⟩:=h
  refine ⟨a,h1,h2,h3,fun ds μ Q X q=>?_⟩
  obtain ⟨t,r,fa,fd,ps,sp',e1,e2,e3,e4,e5⟩:=h4 ds μ Q X q
  exact ⟨t,r,fa,fd,ps,sp',e1,e2,e3,e4.mono hk,e5⟩
 | hdl P tab=>exact h
 | isx tt ts tab=>exact h
theorem FnTop.up {T:Top} {j k:Nat} {x:Rf} {sp:DSp} (h:FnTop T j x sp) (hk:j<=k):FnTop T k x sp:=FnLev.up h (Nat.add_le_add_right hk 16)
theorem Xcg {K:PySem.W.Frag} {sp:DSpX} {vs:List V} {H:Hp} {Q:VK} {E:XK} (h:low K (calmSp sp) vs H Q E):lowX K sp vs H Q E:=by
 obtain ⟨ds,θ,μ,Qd,w,r,h,f⟩:=h
 exact ⟨ds,θ,μ,Qd,_,w,r,h,f,fun _ _ _ _ _ _ _ _ z=>z.elim⟩
theorem FnTop.calm {T:Top} {k:Nat} {x:Str} {sp:DSpX} (h:FnTop T k (.fnX x sp) spN):FnTop T k (.fn x) (calmSp sp):=by
 obtain ⟨fa,fd,ps,h1,h2,h3,h4⟩:=h
 exact ⟨fa,fd,ps,h1,h2,h3,h4.imp fun _ _ _ _ z=>Xcg z⟩
theorem Xbu {T:Top} {x:Str} {i:Int} {t:Tok} (h:T.mg x=some (.int i t)):Wd T x (.int i):=⟨_,.int i,h,⟨t,rfl⟩,fun _ _ _=>Vd⟩
theorem Ybl {K:PySem.W.Frag} {H:Hp} {θ:List Addr} {μ:Mem} {ds:List D} {vs:List V} (N:List Str) (w:WOk K H θ μ) (r:Rps K H θ μ ds vs):Sim K (L2.start N vs) H (Wc N ds) θ μ:=by
 have hl:=r.length
 refine ⟨w,by simp [L2.start,Wc,hl],fun i d h=>?_⟩
 unfold Wc at h
 by_cases hi:i < ds.length
 ·rw [List.getElem?_append_left (by simpa using hi),List.getElem?_map] at h
  cases e:ds[i]? with
  | none=>rw [e] at h; cases h
  | some d' =>
   rw [e] at h; cases h
   obtain ⟨v,e1,e2⟩:=r.get e
   refine ⟨v,?_,e2⟩
   unfold L2.start
   rw [List.getElem?_append_left (by simpa using (hl ▸ hi)),List.getElem?_map,e1]; rfl
 ·rw [List.getElem?_append_right (by simpa using hi),List.getElem?_replicate] at h
  split at h <;> cases h
section
variable {T:Top} {k:Nat} {x qual:Str} {st:Stmt} {f:Addr} {fd:FuncData} {N ps blts:List Str} {i:Ss} {sp:DSp} {spx:DSpX}
theorem Xbr {A:Around} {outer:List Env} {s:Shared} {H:Hp} {E:XK} {cdv:Value} {scope:Scope} (hr:Room k (A.deeper (envOfC qual scope s.heap.objs.size f cdv))) {y:Rf} {sp':DSp} (z:FnLev T k y sp'):Vv (cxOf (CXE T.P T.w) T.P T.w T.K T.mg T.base N qual scope f cdv A outer s H E) y sp':=by
 cases y with
 | fn y =>
  obtain ⟨fa,fd',ps',h1,h2,h3,h4⟩:=z
  exact ⟨fa,fd',ps',k,h1,h2,h3,h4,hr⟩
 | mth c m =>
  obtain ⟨C',fa,fd',ps',h0,h1,h2,h3,h4⟩:=z
  exact ⟨C',fa,fd',ps',k,h0,h1,h2,h3,h4,hr⟩
 | mk c =>
  obtain ⟨C',fa,fd',ps',j,h0,h1,h2,h3,h4,h5⟩:=z
  exact ⟨C',fa,fd',ps',j,h0,h1,h2,h3,h4,hr.mono h5⟩
 | fld c f=>exact z
 | fnX y sp =>
  obtain ⟨fa,fd',ps',h1,h2,h3,h4⟩:=z
  exact ⟨fa,fd',ps',k,h1,h2,h3,h4,hr⟩
 | mthX c m sp =>
  obtain ⟨C',fa,fd',ps',h0,h1,h2,h3,h4⟩:=z
  exact ⟨C',fa,fd',ps',k,h0,h1,h2,h3,h4,hr⟩
 | mkX c sp =>
  obtain ⟨C',fa,fd',ps',j,h0,h1,h2,h3,h4,h5⟩:=z
  exact ⟨C',fa,fd',ps',j,h0,h1,h2,h3,h4,hr.mono h5⟩
 | fnM y =>
  obtain ⟨fa,fd',ps',h1,h2,h3,h4,h5⟩:=z
  exact ⟨fa,fd',ps',h1,h2,h3,h4,hr.mono h5⟩
 | rsi c ks=>exact ⟨z.1,hr.mono z.2⟩
 | efl f tab=>exact z
 | rse c=>exact z
 | lam=>exact z.elim
 | din x ks=>exact z
 | dsp x ks sp=>exact ⟨k,hr,z⟩
 | hdl P tab=>exact z
 | isx tt ts tab=>exact z
theorem Za8 {PL:Rf->DSp->Prop} {spL:Sp} {cm:Bool} (hcm:cm=true->16<=k) (F:Fun T.K x qual st f fd) (S:FnScope N ps (Xa st)) (hmt:mSs ⟨N,(Xa st).names,blts,cm,true⟩ i (Vb st)=true) (hblt:∀ y,blts.contains y=true->T.mg y=none)
  (ok:okSs PL (Wd T) i) (hPL:∀ (A:Around) (outer:List Env) (s:Shared) (H:Hp) (E:XK) (oc:Value) (od an:Option Addr) (osl:Array (Option Value)) (kV doc pm cdv ct:Value),T.K.lookup f=some ⟨oc,od,.func (PySem.W.fnOf x qual (Vp st) (Vb st) (Xa st) .none kV doc pm an cdv ct),osl⟩->Room k (A.deeper (envOfC qual (Xa st) s.heap.objs.size f cdv))->∀ y sp',PL y sp'->Vv (cxOf (CXE T.P T.w) T.P T.w T.K T.mg T.base N qual (Xa st) f cdv A outer s H E) y sp') (len:∀ vs H Q E,spL vs H Q E->vs.length=ps.length)
  (hrun:∀ vs H Q E,spL vs H Q E->∃ ds θ μ Z,WOk T.K H θ μ/\Rps T.K H θ μ ds vs/\wSs i Z (Wc N ds) μ/\FinS T.K (fun _=>E) H θ μ Z { nx:=fun _ H'=>Q .non H',rt:=Q }) :
  FnOk T.P T.w T.K T.mg T.base (CXE T.P T.w) (k + 1) f fd ps spL:=by
 obtain ⟨oc,od,kV,doc,pm,an,cdv,ct,osl,rfl,lk,hcd⟩:=F.ex
 refine fn_of lk hcd S len fun A outer s H vs Q E hr h=>?_
 obtain ⟨ds,θ,μ,Z,wok,r,hs,fin⟩:=hrun vs H Q E h
 have L:=Wbr (P:=T.P) (w:=T.w) (K:=T.K) (mg:=T.mg) (base:=T.base) (N:=N) (qual:=qual) (scope:=Xa st) (f:=f) (cd:=cdv) (A:=A) (outer:=outer) (s:=s) (H:=H) (E:=E)
 have C:SCtx (cxOf (CXE T.P T.w) T.P T.w T.K T.mg T.base N qual (Xa st) f cdv A outer s H E) (fun _=>E) ⟨N,(Xa st).names,blts,cm,true⟩:=by
  refine ⟨⟨rfl,S.nd,fun y hy=>?_,fun y hy=>?_,fun y hy=>?_,fun y hy=>?_,fun y hy=>hy,fun y hy=>hblt y hy,fun z=>Option.isNone_iff_eq_none.mpr (hr.hd (hcm z)),⟨k,hr⟩,PassesOwn.leaving⟩,meets_of L,fun _=>⟨E,L,rfl⟩,fun _=>⟨rfl,rfl,rfl⟩⟩
  ·unfold Ctx.vis at hy
   split at hy
   ·rename_i z; exact .inl z
   ·rename_i z; exact .inr (.inl z)
   ·rename_i z; exact .inr (.inr z)
   ·cases hy
  ·unfold Ctx.loc at hy
   split at hy
   ·rename_i z; exact ⟨.inl z,.inl rfl⟩
   ·rename_i z; exact ⟨.inr z,.inl rfl⟩
   ·cases hy
  ·have hy':(Xa st).names.lookup y=some .local:=by simpa [isLocal] using hy
   exact hy'
  ·unfold Ctx.glb at hy
   split at hy
   ·rename_i z; exact z
   ·cases hy
 refine ⟨LS T.K (fun _=>E) (wSs i),sSs i C hmt (okSs.mono i (fun y sp' z=>?_) (fun y d z=>z) ok),?_⟩
 ·exact hPL A outer s H E _ _ _ _ _ _ _ _ _ lk hr y sp' z
 ·exact ⟨Wc N ds,θ,μ,Z,Ybl N wok r,hs,fin⟩
theorem body_ok {spL:Sp} {cm:Bool} (hcm:cm=true->16<=k) (F:Fun T.K x qual st f fd) (S:FnScope N ps (Xa st)) (hmt:mSs ⟨N,(Xa st).names,blts,cm,true⟩ i (Vb st)=true) (hblt:∀ y,blts.contains y=true->T.mg y=none)
  (ok:okSs (FnLev T k) (Wd T) i) (len:∀ vs H Q E,spL vs H Q E->vs.length=ps.length)
  (hrun:∀ vs H Q E,spL vs H Q E->∃ ds θ μ Z,WOk T.K H θ μ/\Rps T.K H θ μ ds vs/\wSs i Z (Wc N ds) μ/\FinS T.K (fun _=>E) H θ μ Z { nx:=fun _ H'=>Q .non H',rt:=Q }) :
  FnOk T.P T.w T.K T.mg T.base (CXE T.P T.w) (k + 1) f fd ps spL:=Za8 hcm F S hmt hblt ok (fun A outer s H E _ _ _ _ _ _ _ _ _ _ hr y sp' z=>Xbr hr z) len hrun
noncomputable def LamAt (T:Top):Prop:=∃ tc tP:Addr,PySem.W.tabIn T.K Wh=some (tc,tP)/\PySem.W.CodeHd T.base tc tP/\T.base.BuiltinsAt T.mg tP/\mainGlobals≠tP
noncomputable def Za9 (T:Top) (k:Nat) (r:Rf) (sp:DSp):Prop:=FnLev T k r sp∨(r = .lam/\LamAt T)
theorem Wck {spL:Sp} {cm:Bool} (hcm:cm=true->16<=k) (hns:PySem.W.nsIn T.K mainGlobals Wh=some (some (.ref f))) (F:Fun T.K Wh Wh st f fd) (S:FnScope N ps (Xa st)) (hmt:mSs ⟨N,(Xa st).names,blts,cm,true⟩ i (Vb st)=true) (hblt:∀ y,blts.contains y=true->T.mg y=none)
  (ok:okSs (Za9 T k) (Wd T) i) (len:∀ vs H Q E,spL vs H Q E->vs.length=ps.length)
  (hrun:∀ vs H Q E,spL vs H Q E->∃ ds θ μ Z,WOk T.K H θ μ/\Rps T.K H θ μ ds vs/\wSs i Z (Wc N ds) μ/\FinS T.K (fun _=>E) H θ μ Z { nx:=fun _ H'=>Q .non H',rt:=Q }) :
  FnOk T.P T.w T.K T.mg T.base (CXE T.P T.w) (k + 1) f fd ps spL:=by
 refine Za8 hcm F S hmt hblt ok (fun A outer s H E oc od an osl kV doc pm cdv ct lk hr y sp' z=>?_) len hrun
 rcases z with z | ⟨rfl,tc,tP,h1,h2,h3,h4⟩
 ·exact Xbr hr z
 ·refine ⟨tc,tP,h1,?_,rfl,h2,h3,h4⟩
  show cdv = .ref tc
  have e:=h1
  unfold PySem.W.tabIn at e
  rw [hns] at e
  simp only at e
  rw [lk] at e
  simp only [PySem.W.fnOf] at e
  split at e
  ·rename_i c
   split at e
   ·split at e
    ·cases e; rfl
    ·cases e
   ·cases e
  ·cases e
theorem fn_okF (F:Fun T.K x qual st f fd) (S:FnScope N ps (Xa st)) (hmt:mSs (Ctx.of N (Xa st).names blts) i (Vb st)=true) (hblt:∀ y,blts.contains y=true->T.mg y=none)
  (ok:okSs (FnTop T k) (Wd T) i) (har:∀ ds μ Q,sp ds μ Q->ds.length=ps.length) (hk:Keeps N i sp):FnOk T.P T.w T.K T.mg T.base (CXE T.P T.w) (k + 16 + 1) f fd ps (low T.K sp):=by
 refine body_ok (fun _=>Nat.le_add_left 16 k) F S hmt hblt ok (fun vs H Q E h=>?_) fun vs H Q E h=>?_
 ·obtain ⟨ds,θ,μ,Qd,wok,r,hs,_⟩:=h
  rw [<- r.length]; exact har ds μ Qd hs
 ·obtain ⟨ds,θ,μ,Qd,wok,r,hs,fin⟩:=h
  refine ⟨ds,θ,μ,topZ Qd,wok,r,hk ds μ Qd hs,⟨fun σ' H' ρ' θ' μ' s' g z=>?_,fin,fun _ _ _ _ _ _ _ z=>z.elim,fun _ _ _ _ _ _ _ z=>z.elim,fun _ _ _ _ _ _ _ _ _ _ z=>z.elim⟩⟩
  exact fin .non .non H' θ' μ' s'.wok g Xa3 z
theorem fn_okL (hns:PySem.W.nsIn T.K mainGlobals Wh=some (some (.ref f))) (F:Fun T.K Wh Wh st f fd) (S:FnScope N ps (Xa st)) (hmt:mSs (Ctx.of N (Xa st).names blts) i (Vb st)=true) (hblt:∀ y,blts.contains y=true->T.mg y=none)
  (ok:okSs (Za9 T (k + 16)) (Wd T) i) (har:∀ ds μ Q,sp ds μ Q->ds.length=ps.length) (hk:Keeps N i sp):FnOk T.P T.w T.K T.mg T.base (CXE T.P T.w) (k + 16 + 1) f fd ps (low T.K sp):=by
 refine Wck (fun _=>Nat.le_add_left 16 k) hns F S hmt hblt ok (fun vs H Q E h=>?_) fun vs H Q E h=>?_
 ·obtain ⟨ds,θ,μ,Qd,wok,r,hs,_⟩:=h
  rw [<- r.length]; exact har ds μ Qd hs
 ·obtain ⟨ds,θ,μ,Qd,wok,r,hs,fin⟩:=h
  refine ⟨ds,θ,μ,topZ Qd,wok,r,hk ds μ Qd hs,⟨fun σ' H' ρ' θ' μ' s' g z=>?_,fin,fun _ _ _ _ _ _ _ z=>z.elim,fun _ _ _ _ _ _ _ z=>z.elim,fun _ _ _ _ _ _ _ _ _ _ z=>z.elim⟩⟩
  exact fin .non .non H' θ' μ' s'.wok g Xa3 z
theorem fn_ok {y:Str} (F:Fun T.K x qual st f fd) (S:FnScope N ps (Xa st)) (hmt:mSs (Ctx.of N (Xa st).names blts) i (Vb st)=true) (hblt:∀ y,blts.contains y=true->T.mg y=none)
  (ok:okSs (FnTop T k) (Wd T) i) (har:∀ ds μ Q,sp ds μ Q->ds.length=ps.length) (hk:Keeps N i sp) (hm:T.mg y=some (.ref f)) (hb:Binds T.K fd ps []):FnTop T (k + 1) (.fn y) sp :=
 ⟨f,fd,ps,hm,F.kp,hb,(fn_okF F S hmt hblt ok har hk).mono (by omega:k + 16 + 1<=k + 1 + 16)⟩
end
theorem Xac {K:PySem.W.Frag} {H:Hp} {θ:List Addr} {L:Addr->Prop}:∀ ns:List Int,Reps K H θ L (ns.map D.int) (ns.map V.int)
 | []=>Reps.nil
 | n :: ns=>Reps.cons (by unfold Rep; rfl) (Xac ns)
theorem Ybd {K:PySem.W.Frag} {H:Hp} {a tc tP:Addr} {ns:List Int} (hl:ns.length<=63) (ht:PySem.W.tabIn K Wh=some (tc,tP)) (hO:Vcl tP lamQ H) (hS:SqL K H a (ns.map V.int)):low K spLawT [.ref a] H (fun v _=>v = .bl true) fun _ _ _=>False:=by
 have hOa:∀ xs,H a≠some (.lst xs):=fun xs z=>by
  rcases hO.2 a with q | ⟨o,ys,q⟩ | q
  ·rw [z] at q; cases q
  ·rw [z] at q; cases q
  ·rw [q,hO.1] at z; cases z
 have nl:∀ b o xs,H b=some (.frz o (.lst xs))->¬ Live [tP] [Cell.tbl] b:=fun b o xs q=>by
  rintro ⟨n,c,e,_⟩
  match n,e with
  | 0,e=>cases e; rw [hO.1] at q; cases q
  | n + 1,e=>simp at e
 refine ⟨[.ro (ns.map D.int)],[tP],[.tbl],fun d _=>d = .bl true,⟨rfl,fun m n b h k=>?_,fun n b h=>?_,fun n c b h k=>?_⟩,Reps.one ?_,⟨ns,rfl,hl,rfl,fun _=>rfl⟩,fun d v H' θ' μ' w g r q=>?_⟩
 ·match m,n,h,k with
  | 0,0,_,_=>rfl
  | 0,n + 1,_,k=>simp at k
  | m + 1,_,h,_=>simp at h
 ·match n,h with
  | 0,h=>cases h; rw [hO.1]; simp
  | n + 1,h=>simp at h
 ·match n,h,k with
  | 0,h,k=>cases h; cases k; exact ⟨tc,_,ht,hO.1,rfl⟩
  | n + 1,h,_=>simp at h
 ·unfold Rep
  refine ⟨a,ns.map V.int,rfl,?_,Xac ns⟩
  rcases hS with (h | ⟨o,h⟩) | h
  ·exact absurd h (hOa _)
  ·exact .inl ⟨o,h,nl a o _ h⟩
  ·exact .inr h
 ·subst q; exact Vf r
theorem law_walkT {l:PySem.W.OpenLaw} {k:Nat} {q:Program} {loose:List Str} {XP:(Str->Option Value)->Heap->Prop} {YP:World->Heap->Prop} {d dl:DefRec} {K:Params->PySem.W.Frag} (hI:importsNone q=true) (hn:l.most=some 63) (hk:k<=200) (hdf:d.params.defaults=[])
  (hY:∀ (w:World) (h:Heap),YP w h->(K w.params).In h)
  (hrec:(recsOf q).find? (fun e=>e.name == Wh)=some dl) (htab:∀ w:World,∃ tc tP,PySem.W.tabIn (K w.params) Wh=some (tc,tP)/\(K w.params).lookup tP=none/\mainGlobals≠tP)
  (F:∀ (w:World) (mg:Str->Option Value) (fa:Addr) (h:Heap),(K w.params).In h->h.Ns mainGlobals mg->mg d.name=some (.ref fa) ->
   ∃ fd:FuncData,(∀ (s:Shared) (u:Value),BindsTo s fd ⟨[u],[]⟩ [("script",u)])/\∀ base:Heap,(K w.params).In base->base.Ns mainGlobals mg->LamAt ⟨l.prog,w,K w.params,mg,base⟩->FnOk l.prog w (K w.params) mg base (CXE l.prog w) k fa fd ["script"] (low (K w.params) spLawT)) :
  PySem.W.WalkO q loose XP YP l.row.toRowW d [] (fun f vs=>PySem.call f vs):=by
 have hr:Room 200 callerA:=⟨fun _=>rfl,by decide,by decide,rfl⟩
 refine L2.walk_ofT (n:=63) (k:=k) (x:="script") (lx:=Wh) (tq:=lamQ) (CX:=fun w=>CXE l.prog w) (sp:=fun w=>low (K w.params) spLawT) hI hn (by decide) hdf (hr.mono hk) hY hrec (fun w=>let ⟨tc,tP,h1,h2,_⟩:=htab w; ⟨tc,tP,h1,h2⟩) (fun w mg fa h h1 h2 h3=>?_) (fun w H a tc tP ns hl ht hO hS=>Ybd hl ht hO hS) fun w _ _ _ _ z=>by
  obtain ⟨_,_,_,_,_,_,_,_,_,q⟩:=z
  exact q
 obtain ⟨fd,f1,f2⟩:=F w mg fa h h1 h2 h3
 refine ⟨fd,f1,fun base b1 b2 b3=>f2 base b1 b2 ?_⟩
 obtain ⟨tc,tP,t1,_,t3⟩:=htab w
 obtain ⟨c1,c2⟩:=b3 tc tP t1
 exact ⟨tc,tP,t1,c1,c2,t3⟩
noncomputable def tabB (K:PySem.W.Frag):Bool:=match PySem.W.tabIn K Wh with | some t=>(K.lookup t.2).isNone && decide (mainGlobals≠t.2) | none=>false
theorem tab_mk {K:PySem.W.Frag} (h:tabB K=true):∃ tc tP,PySem.W.tabIn K Wh=some (tc,tP)/\K.lookup tP=none/\mainGlobals≠tP:=by
 unfold tabB at h
 split at h
 ·rename_i t e
  simp only [Bool.and_eq_true,decide_eq_true_eq,Option.isNone_iff_eq_none] at h
  exact ⟨t.1,t.2,e,h.1,h.2⟩
 ·cases h
section
variable {T:Top} {h:Heap} {k:Nat} {x:Str} {ks:List (List Nat)} {spx:DSpX}
end
section
variable {α:Type} {P:List α->Prop}
theorem len1 (h:∀ a,P [a]):∀ us:List α,us.length=1->P us
 | [a],_=>h a
theorem len2 (h:∀ a b,P [a,b]):∀ us:List α,us.length=2->P us
 | [a,b],_=>h a b
theorem len3 (h:∀ a b c,P [a,b,c]):∀ us:List α,us.length=3->P us
 | [a,b,c],_=>h a b c
theorem len4 (h:∀ a b c d,P [a,b,c,d]):∀ us:List α,us.length=4->P us
 | [a,b,c,d],_=>h a b c d
end
noncomputable def DefAt (K:PySem.W.Frag) (x:Str) (st:Stmt):Prop:=∃ (f:Addr) (fd:FuncData),PySem.W.nsIn K mainGlobals x=some (some (.ref f))/\Fun K x x st f fd
theorem defAt_mk {K:PySem.W.Frag} {x:Str} {st:Stmt} {f:Addr} {oc:Value} {od an:Option Addr} {osl:Array (Option Value)} {kV doc pm cdv ct:Value} (a:PySem.W.nsIn K mainGlobals x=some (some (.ref f)))
  (l:K.lookup f=some ⟨oc,od,.func (PySem.W.fnOf x x (Vp st) (Vb st) (Xa st) .none kV doc pm an cdv ct),osl⟩) (c:PySem.W.codeIn K cdv x=true) (k:PySem.W.keepIn K (.ref f)=true):DefAt K x st:=⟨f,_,a,fun_mk l c k⟩
theorem intAt_mk {K:PySem.W.Frag} {x:Str} {i:Int} {t:Tok} (h:PySem.W.nsIn K mainGlobals x=some (some (.int i t))):∃ t,PySem.W.nsIn K mainGlobals x=some (some (.int i t)):=⟨t,h⟩
noncomputable def FreeAt (K:PySem.W.Frag):List Str->Prop
 | []=>True
 | x :: xs=>PySem.W.nsIn K mainGlobals x=some none/\FreeAt K xs
theorem Vbu {K:PySem.W.Frag} {h:Heap} {mg:Str->Option Value} (X:K.In h) (G:h.Ns mainGlobals mg):∀ {xs:List Str},FreeAt K xs->∀ y,xs.contains y=true->mg y=none
 | [],_,y,h=>by simp at h
 | x :: xs,F,y,h=>by
  by_cases e:y=x
  ·subst e; exact PySem.W.mg_none_of X G F.1
  ·exact Vbu X G F.2 y (by simpa [e] using h)
theorem Xn {T:Top} {h:Heap} {k:Nat} {x:Str} {st:Stmt} {N ps blts:List Str} {i:Ss} {sp:DSp} (D:DefAt T.K x st) (X:T.K.In h) (G:h.Ns mainGlobals T.mg) (S:FnScope N ps (Xa st)) (hmt:mSs (Ctx.of N (Xa st).names blts) i (Vb st)=true) (hblt:∀ y,blts.contains y=true->T.mg y=none)
  (hbd:∀ (kV doc pm:Value) (an:Option Addr) (cdv ct:Value) (us:List Value),us.length=ps.length->bindArgs (PySem.W.fnOf x x (Vp st) (Vb st) (Xa st) .none kV doc pm an cdv ct) ⟨us,[]⟩=pure (ps.zip us))
  (har:∀ ds μ Q,sp ds μ Q->ds.length=ps.length) (hk:Keeps N i sp) (ok:okSs (FnTop T k) (Wd T) i):FnTop T (k + 1) (.fn x) sp:=by
 obtain ⟨f,fd,a,F⟩:=D
 exact fn_ok F S hmt hblt ok har hk (PySem.W.mg_of X G a) (F.binds hbd)
theorem fn_atL {T:Top} {h:Heap} {k:Nat} {st:Stmt} {N ps blts:List Str} {i:Ss} {sp:DSp} (D:DefAt T.K Wh st) (X:T.K.In h) (G:h.Ns mainGlobals T.mg) (S:FnScope N ps (Xa st)) (hmt:mSs (Ctx.of N (Xa st).names blts) i (Vb st)=true) (hblt:∀ y,blts.contains y=true->T.mg y=none)
  (hbd:∀ (kV doc pm:Value) (an:Option Addr) (cdv ct:Value) (us:List Value),us.length=ps.length->bindArgs (PySem.W.fnOf Wh Wh (Vp st) (Vb st) (Xa st) .none kV doc pm an cdv ct) ⟨us,[]⟩=pure (ps.zip us))
  (har:∀ ds μ Q,sp ds μ Q->ds.length=ps.length) (hk:Keeps N i sp) (ok:okSs (Za9 T (k + 16)) (Wd T) i):FnTop T (k + 1) (.fn Wh) sp:=by
 obtain ⟨f,fd,a,F⟩:=D
 exact ⟨f,fd,ps,PySem.W.mg_of X G a,F.kp,F.binds hbd,(fn_okL a F S hmt hblt ok har hk).mono (by omega:k + 16 + 1<=k + 1 + 16)⟩
noncomputable def AliasAt (K:PySem.W.Frag) (y x:Str):Prop:=∃ f:Addr,PySem.W.nsIn K mainGlobals y=some (some (.ref f))/\PySem.W.nsIn K mainGlobals x=some (some (.ref f))
theorem FnTop.other {T:Top} {h:Heap} {k:Nat} {x y:Str} {sp:DSp} (A:AliasAt T.K y x) (X:T.K.In h) (G:h.Ns mainGlobals T.mg) (u:FnTop T k (.fn x) sp):FnTop T k (.fn y) sp:=by
 obtain ⟨f,a,b⟩:=A
 obtain ⟨fa,fd,ps,h1,h2⟩:=u
 exact ⟨fa,fd,ps,by rw [PySem.W.mg_of X G a,<- PySem.W.mg_of X G b]; exact h1,h2⟩
noncomputable def NoAt (K:PySem.W.Frag) (c f:String):Prop:=∃ C:Addr,PySem.W.nsIn K mainGlobals (Str.ofString c)=some (some (.ref C))/\PySem.W.findIn K (.ref C) (Str.ofString f)=some none
section
variable {T:Top} {k:Nat} {c m:String} {q:Str} {st:Stmt} {N ps blts:List Str} {i:Ss} {sp:DSp} {spx:DSpX}
end
noncomputable def RseK (K:PySem.W.Frag) (c:String):Prop:=∃ C,PySem.W.nsIn K mainGlobals (Str.ofString c)=some (some (.ref C))/\PySem.W.excIn K C bmVE "ValueError.__new__" = true
noncomputable def XCls (K:PySem.W.Frag) (c:String):Prop:=∃ C,PySem.W.nsIn K mainGlobals (Str.ofString c)=some (some (.ref C))/\ExcCls K C
noncomputable def HdlK (K:PySem.W.Frag) (P:String) (tab:List String):Prop:=∃ CP,PySem.W.nsIn K mainGlobals (Str.ofString P)=some (some (.ref CP))/\∀ c∈tab,∃ C,PySem.W.nsIn K mainGlobals (Str.ofString c)=some (some (.ref C))/\PySem.W.exmOne K (.ref C) (.ref CP)=some true
noncomputable def ClsValsK (K:PySem.W.Frag):List String->List V->Prop
 | [],[]=>True
 | t :: ts,v :: vs=>((∃ C,v = .ref C/\PySem.W.nsIn K mainGlobals (Str.ofString t)=some (some (.ref C)))∨(v = .ty t/\PySem.W.nsIn K mainGlobals (Str.ofString t)=some none/\bootBuiltins (Str.ofString t)=some (.type t)/\Str.ofString t≠"__name__"))/\ClsValsK K ts vs
 | _,_=>False
noncomputable def IsxK (K:PySem.W.Frag) (tt:Bool) (ts:List String) (tab:List (String×Bool)):Prop:=∃ vs,ClsValsK K ts vs/\∀ p∈tab,∃ C,PySem.W.nsIn K mainGlobals (Str.ofString p.1)=some (some (.ref C))/\ExcCls K C /\
 (if tt=true then PySem.W.kitAny K (.ref C) (vs.map clsU)=some p.2 else ∃ v,vs=[v]/\PySem.W.kitOne K (.ref C) (clsU v)=some p.2)
section
variable {K:PySem.W.Frag} {h:Heap} {mg:Str->Option Value} (X:K.In h) (G:h.Ns mainGlobals mg)
include X G
theorem RseK.at {c:String} (r:RseK K c):RseAt K mg c:=by
 obtain ⟨C,h1,h2⟩:=r
 exact ⟨C,h1,PySem.W.mg_of X G h1,h2⟩
theorem HdlK.at {P:String} {tab:List String} (r:HdlK K P tab):HdlAt K mg P tab:=by
 obtain ⟨C,h1,h2⟩:=r
 exact ⟨C,PySem.W.mg_of X G h1,h2⟩
theorem ClsValsK.at:∀ {ts:List String} {vs:List V},ClsValsK K ts vs->Ya1 mg ts vs
 | [],[],_=>trivial
 | [],_ :: _,r=>r.elim
 | _ :: _,[],r=>r.elim
 | t :: ts,v :: vs,r=>by
  refine ⟨?_,ClsValsK.at r.2⟩
  rcases r.1 with ⟨C,e,h1⟩ | ⟨e,h1,h2,h3⟩
  ·exact .inl ⟨C,e,PySem.W.mg_of X G h1⟩
  ·exact .inr ⟨e,PySem.W.mg_none_of X G h1,h2,h3⟩
theorem IsxK.at {tt:Bool} {ts:List String} {tab:List (String×Bool)} (r:IsxK K tt ts tab):IsxAt K mg tt ts tab:=by
 obtain ⟨vs,h1,h2⟩:=r
 exact ⟨vs,ClsValsK.at X G h1,h2⟩
end
noncomputable def EflK (K:PySem.W.Frag) (f:String):List String->Prop
 | []=>True
 | c :: cs=>(XCls K c/\NoAt K c f/\∃ C,PySem.W.nsIn K mainGlobals (Str.ofString c)=some (some (.ref C))/\PySem.W.hasDictIn K C=true)/\EflK K f cs
theorem EflK.at {K:PySem.W.Frag} {f:String}:∀ {tab:List String},EflK K f tab->EflAt K f tab
 | [],_,c,m=>by simp at m
 | x :: tab,h,c,m=>by
  rcases List.mem_cons.mp m with rfl | m
  ·obtain ⟨⟨C,a1,a2⟩,⟨C',b1,b2⟩,C'',c1,c2⟩:=h.1
   rw [a1] at b1 c1; cases b1; cases c1
   exact ⟨C,a1,a2,b2,c2⟩
  ·exact EflK.at h.2 c m
end DW
end
section
namespace DW
open PySem
noncomputable def Yh (μ:Mem) (n:Nat):Prop:=∃ b:Int,μ[n]? = some (.lst [.int b])
noncomputable def bx (μ:Mem) (n:Nat) (b:Int):Mem:=μ.set n (.lst [.int b])
def spL_cell:DSp:=fun ds μ Q=>match ds with
 | [.ro xs,.int k]=>∃ ns:List Int,xs=ns.map D.int/\ns.length < 1000/\0<=k/\∀ c,Q (.int c) μ
 | _=>False
def spL_mix:DSp:=fun ds μ Q=>match ds with
 | [.int c,.int k]=>0<=k/\k < 1000/\∀ r,0<=r->r < 142857144->Q (.int r) μ
 | _=>False
def spL_box:DSp:=fun ds μ Q=>match ds with
 | [.ro xs,.int k]=>∃ ns:List Int,xs=ns.map D.int/\ns.length < 1000/\0<=k/\∀ b,Q (.loc μ.length) (μ ++ [.lst [.int b]])
 | _=>False
def spL_take:DSp:=fun ds μ Q=>match ds with
 | [.loc n,.int m]=>Yh μ n/\0 < m/\m < 2 ^ 500/\∀ d b,0<=d->d < m->Q (.int d) (bx μ n b)
 | _=>False
def nL_cell:List Str:=["script","k"]
noncomputable def iL_cell:Ss:=(.cons (.ite (.cmp .Lt (.var 1) (.blt "len" (.cons (.var 0) .nil))) (.cons (.ret (.idx (.var 0) (.var 1))) .nil) .nil) (.cons (.ret (.cst (.int 0))) .nil))
def nL_mix:List Str:=["cell","k","some","stir"]
noncomputable def iL_mix:Ss:=(.cons (.set 2 (.lst false (.cons (.cst (.int 48271)) (.cons (.cst (.int 69621)) (.cons (.cst (.int 16807)) (.cons (.cst (.int 39373)) (.cons (.cst (.int 30269)) (.cons (.cst (.int 40014)) (.cons (.cst (.int 40692)) (.cons (.cst (.int 50021)) (.cons (.cst (.int 61687)) (.cons (.cst (.int 71993)) (.cons (.cst (.int 83869)) (.cons (.cst (.int 95561)) (.cons (.cst (.int 30307)) .nil))))))))))))))) (.cons (.set 3 (.bin .Add (.bin .Add (.bin .Mult (.bin .Add (.bin .Mod (.var 0) (.cst (.int 2147483647))) (.cst (.int 12345))) (.idx (.var 2) (.bin .Mod (.var 1) (.cst (.int 13))))) (.bin .Mult (.cst (.int 977)) (.var 1))) (.bin .Mult (.cst (.int 7919)) (.bin .FloorDiv (.var 1) (.cst (.int 13)))))) (.cons (.set 3 (.bin .Mod (.var 3) (.cst (.int 1000000007)))) (.cons (.ret (.bin .FloorDiv (.bin .Mod (.bin .Add (.bin .Mult (.var 3) (.var 3)) (.bin .Mult (.cst (.int 48271)) (.var 1))) (.cst (.int 1000000007))) (.cst (.int 7)))) .nil))))
def nL_box:List Str:=["script","k","cell","number","j"]
noncomputable def iL_box:Ss:=(.cons (.set 2 (.call "_law_cell" spL_cell (.cons (.var 0) (.cons (.var 1) .nil)))) (.cons (.ite (.cmp .Eq (.bin .Mod (.var 2) (.cst (.int 2))) (.cst (.int 0))) (.cons (.ret (.lst true (.cons (.bin .FloorDiv (.blt "abs" (.cons (.var 2) .nil)) (.cst (.int 2))) .nil))) .nil) .nil) (.cons (.set 3 (.cst (.int 0))) (.cons (.for_ [4] false (.rng (.cons (.cst (.int 40)) .nil)) (.cons (.set 3 (.bin .Add (.bin .Mult (.var 3) (.cst (.int 142857143))) (.call "_law_mix" spL_mix (.cons (.var 2) (.cons (.var 4) .nil))))) .nil)) (.cons (.ret (.lst true (.cons (.var 3) .nil))) .nil)))))
def nL_take:List Str:=["box","many","left","digit"]
noncomputable def iL_take:Ss:=(.cons (.setT [2,3] (.blt "divmod" (.cons (.idx (.var 0) (.cst (.int 0))) (.cons (.var 1) .nil)))) (.cons (.setIx (.var 0) (.cst (.int 0)) (.var 2)) (.cons (.ret (.var 3)) .nil)))
theorem Vh {μ:Mem} {n:Nat} {b:Int} (h:Yh μ n):Yh (bx μ n b) n:=by
 obtain ⟨c,h⟩:=h
 exact ⟨b,by unfold bx; rw [List.getElem?_set_self (List.getElem?_eq_some_iff.mp h).1]⟩
theorem Zbu {μ:Mem} {b:Int}:Yh (μ ++ [.lst [.int b]]) μ.length:=⟨b,by simp⟩
theorem Xb1 {μ:Mem} {n:Nat} {b c:Int}:bx (bx μ n b) n c=bx μ n c:=by simp [bx]
theorem kL_cell:Keeps nL_cell iL_cell spL_cell:=by
 intro ds μ Q h
 unfold spL_cell at h
 split at h
 ·obtain ⟨ns,rfl,hl,hk,h⟩:=h
  rename_i k
  simp [iL_cell,nL_cell,Wc,topZ,wSs,wS,wT,wE,wEs,wBlt,lenOf,Zb,wCmp,ltD,wBl]
  by_cases hk2:k < ns.length
  ·have e:ixD ns.length k=some k.toNat:=by simp [ixD,hk,hk2]
   have h2:k.toNat < ns.length:=by omega
   simp [hk2,wIdx,Zb,e,h2,h]
  ·simp [hk2,h]
 ·exact h.elim
theorem kL_take:Keeps nL_take iL_take spL_take:=by
 intro ds μ Q h
 unfold spL_take at h
 split at h
 ·obtain ⟨⟨b,hb⟩,h0,hm,h⟩:=h
  rename_i n m
  have hc:Wa1 m:=⟨h0,hm⟩
  simp [iL_take,nL_take,Wc,topZ,wSs,wS,wT,wE,wEs,wIdx,Zb,hb,ixD,wBlt,hc,Zq,Zab]
  exact h _ _ (Int.emod_nonneg _ (by omega)) (Int.emod_lt_of_pos _ h0)
 ·exact h.elim
theorem kL_mix:Keeps nL_mix iL_mix spL_mix:=by
 intro ds μ Q h
 unfold spL_mix at h
 split at h
 ·obtain ⟨h0,hm,h⟩:=h
  rename_i c k
  have e:ixD 13 (k % 13)=some (k % 13).toNat:=by
   have q1:0<=k % 13:=by omega
   have q2:k % 13 < 13:=by omega
   simp [ixD,q1,q2]
  have hr:=h
  have hk13:(k % 13).toNat < 13:=by omega
  have hz:∃ z:Int,([D.int 48271,.int 69621,.int 16807,.int 39373,.int 30269,.int 40014,.int 40692,.int 50021,.int 61687,.int 71993,.int 83869,.int 95561,.int 30307]:List D)[(k % 13).toNat]? = some (.int z)/\0 < z/\z < 100000:=by
   generalize (k % 13).toNat=j at hk13
   match j,hk13 with
   | 0,_=>exact ⟨_,rfl,by decide⟩
   | 1,_=>exact ⟨_,rfl,by decide⟩
   | 2,_=>exact ⟨_,rfl,by decide⟩
   | 3,_=>exact ⟨_,rfl,by decide⟩
   | 4,_=>exact ⟨_,rfl,by decide⟩
   | 5,_=>exact ⟨_,rfl,by decide⟩
   | 6,_=>exact ⟨_,rfl,by decide⟩
   | 7,_=>exact ⟨_,rfl,by decide⟩
   | 8,_=>exact ⟨_,rfl,by decide⟩
   | 9,_=>exact ⟨_,rfl,by decide⟩
   | 10,_=>exact ⟨_,rfl,by decide⟩
   | 11,_=>exact ⟨_,rfl,by decide⟩
   | 12,_=>exact ⟨_,rfl,by decide⟩
  obtain ⟨z,hz,z1,z2⟩:=hz
  simp [iL_mix,nL_mix,Wc,topZ,wSs,wS,wT,wE,wEs,wIdx,Zb,newL,lim,wBin,Wa1,e]
  rw [hz]
  have m1:Xa1 (c % 2147483647 + 12345) z:=.inr (by omega)
  have m2:Xa1 977 k:=.inl (by omega)
  have m3:Xa1 7919 (k / 13):=.inl (by omega)
  have m5:Xa1 48271 k:=.inl (by omega)
  simp only [m1,m2,m3,m5,true_and]
  generalize hv:((c % 2147483647 + 12345) * z + 977 * k + 7919 * (k / 13)) % 1000000007=v
  have m4:Xa1 v v:=.inl (by omega)
  refine ⟨m4,h _ (by omega) (by omega)⟩
 ·exact h.elim
theorem kL_box:Keeps nL_box iL_box spL_box:=by
 intro ds μ Q h
 unfold spL_box at h
 split at h
 ·obtain ⟨ns,rfl,hl,hk,h⟩:=h
  rename_i k
  simp [iL_box,nL_box,Wc,topZ,wSs,wS,wT,wE,wEs,wI,spL_cell]
  refine ⟨ns,rfl,hl,hk,fun c=>?_⟩
  simp [wBin,wCmp,flat,wBl]
  by_cases hc:eqD (.int (c % 2)) (.int 0)=true
  ·simp [hc,wBlt,Wa1,lim,newL,h]
  ·simp only [hc,if_neg,Bool.false_eq_true,not_false_eq_true,wRng,Yap]
   refine ⟨by decide,by decide,?_⟩
   refine Vi (fun ds ρ μ'=>μ'=μ/\(∀ d∈ds,∃ i:Int,d = .int i/\0<=i/\i < 1000)/\∃ v w,ρ=[some (.ro (ns.map D.int)),some (.int k),some (.int c),some (.int v),w]) ?_ ?_ _ _ _ ⟨rfl,?_,0,none,rfl⟩
   ·rintro d ds ρ μ' N hN ⟨rfl,hd,v,w,rfl⟩
    obtain ⟨i,rfl,i0,i1⟩:=hd d (by simp)
    refine ⟨trivial,?_⟩
    simp [Zq,wBin,Xa1,spL_mix,i0,i1]
    intro r _ _
    exact hN _ _ ⟨rfl,fun d q=>hd d (by simp [q]),_,_,rfl⟩
   ·rintro ρ μ' ⟨rfl,-,v,w,rfl⟩
    refine ⟨trivial,?_⟩
    simp [lim,newL]
    exact h _
   ·intro d hd
    simp only [Zg,List.mem_map,List.mem_range] at hd
    obtain ⟨j,hj,rfl⟩:=hd
    exact ⟨_,rfl,by omega,by omega⟩
 ·exact h.elim
end DW
end
section
namespace DW
open PySem
noncomputable def dicB (μ:Mem) (n:Nat):Bool:=match μ[n]? with | some (.dic _ _)=>true | _=>false
theorem Za7 {μ:Mem} {n:Nat} (h:dicB μ n=true):∃ ks ds,μ[n]? = some (.dic ks ds):=by
 unfold dicB at h
 split at h
 ·rename_i ks ds e; exact ⟨ks,ds,e⟩
 ·cases h
theorem dic_ty {μ:Mem} {n:Nat} (h:dicB μ n=true):tyOf μ (.loc n)=some "dict":=by
 unfold dicB at h
 simp only [tyOf]
 split at h
 ·rename_i e; rw [e]
 ·cases h
def spL_whole:DSp:=fun ds μ Q=>match ds with
 | [.int _]=>Q (.bl true) μ
 | [.loc n]=>dicB μ n=true/\Q (.bl false) μ
 | [.ro _]=>False
 | [.fdc _ _]=>False
 | [_]=>Q (.bl false) μ
 | _=>False
def nL_whole:List Str:=["thing"]
noncomputable def iL_whole:Ss:=(.cons (.ret (.and (.isin (.var 0) "int") (.not (.isin (.var 0) "bool")))) .nil)
theorem kL_whole:Keeps nL_whole iL_whole spL_whole:=by
 intro ds μ Q h
 unfold spL_whole at h
 split at h
 ·simpa [iL_whole,nL_whole,Wc,topZ,wSs,wS,wE,Ws,tyOf,isTy,wBl] using h
 ·simpa [iL_whole,nL_whole,Wc,topZ,wSs,wS,wE,Ws,dic_ty h.1,isTy,wBl] using h.2
 ·exact h.elim
 ·exact h.elim
 ·rename_i d h1 h2 h3 h4
  cases d with
  | int i=>exact absurd rfl (h1 i)
  | loc i=>exact absurd rfl (h2 i)
  | ro i=>exact absurd rfl (h3 i)
  | fdc i j=>exact absurd rfl (h4 i j)
  | _=>simpa [iL_whole,nL_whole,Wc,topZ,wSs,wS,wE,Ws,tyOf,isTy,wBl] using h
 ·exact h.elim
end DW
end
section
namespace DW
end DW
end
section
namespace DW
open PySem
end DW
end
section
namespace DW.K03
open PySem DW
end DW.K03
end
section
namespace DW
open PySem DW.K03
mutual
noncomputable def good (μ:Mem):D->Bool
 | .str x=>x.all (· < 1114112)
 | .tup ds=>Zaa μ ds
 | .lst ds=>Zaa μ ds
 | .dic _ _=>false
 | .loc n=>dicB μ n
 | .ro _=>false
 | .fdc _ _=>false
 | _=>true
noncomputable def Zaa (μ:Mem):List D->Bool
 | []=>true
 | d :: ds=>good μ d && Zaa μ ds
end
def spL_truth:DSp:=fun ds μ Q=>match ds with
 | [.bl a,.bl b]=>Q (.bl (a == b)) μ
 | _=>False
def nL_truth:List Str:=["found","due"]
noncomputable def iL_truth:Ss:=(.cons (.ret (.and (.isin (.var 0) "bool") (.cmp .Eq (.var 0) (.var 1)))) .nil)
theorem kL_truth:Keeps nL_truth iL_truth spL_truth:=by
 intro ds μ Q h
 unfold spL_truth at h
 split at h
 ·simpa [iL_truth,nL_truth,Wc,topZ,wSs,wS,wE,Ws,tyOf,isTy,wBl,wCmp,flat,eqD] using h
 ·exact h.elim
end DW
end
section
namespace DW
open PySem
def sp_is_whole:DSp:=fun ds μ Q=>match ds with
 | [.int _]=>Q (.bl true) μ
 | [.loc n]=>dicB μ n=true/\Q (.bl false) μ
 | [.ro _]=>False
 | [.fdc _ _]=>False
 | [_]=>Q (.bl false) μ
 | _=>False
noncomputable def odds (m:Nat):List D:=[.non,.bl true,.bl false,.int (-1),.str [49],.str [],.str [97,98],.tup [],.lst [],.tup [.int 1],.lst [.int 1],.loc m,.tup [.int 0,.int 1],.int (10 ^ 39),.lst [.str [97]],.tup [.tup [.int 1,.str [97]]]]
def spL_odd:DSp:=fun ds μ Q=>match ds with
 | [.loc n]=>Yh μ n/\∀ o b,o∈odds μ.length->Q o (bx (μ ++ [.dic [.inr [97]] [.int 1]]) n b)
 | _=>False
def n_is_whole:List Str:=["thing"]
noncomputable def i_is_whole:Ss:=(.cons (.ret (.and (.isin (.var 0) "int") (.not (.isin (.var 0) "bool")))) .nil)
def nL_odd:List Str:=["box","some"]
noncomputable def iL_odd:Ss:=(.cons (.set 1 (.lst false (.cons (.cst .non) (.cons (.cst (.bl true)) (.cons (.cst (.bl false)) (.cons (.neg (.cst (.int 1))) (.cons (.cst (.str [49])) (.cons (.cst (.str [])) (.cons (.cst (.str [97,98])) (.cons (.tup .nil) (.cons (.lst false .nil) (.cons (.tup (.cons (.cst (.int 1)) .nil)) (.cons (.lst false (.cons (.cst (.int 1)) .nil)) (.cons (.dsp [.inr [97]] (.cons (.cst (.int 1)) .nil)) (.cons (.tup (.cons (.cst (.int 0)) (.cons (.cst (.int 1)) .nil))) (.cons (.bin .Pow (.cst (.int 10)) (.cst (.int 39))) (.cons (.lst false (.cons (.cst (.str [97])) .nil)) (.cons (.tup (.cons (.tup (.cons (.cst (.int 1)) (.cons (.cst (.str [97])) .nil))) .nil)) .nil)))))))))))))))))) (.cons (.ret (.idx (.var 1) (.call "_law_take" spL_take (.cons (.var 0) (.cons (.cst (.int 16)) .nil))))) .nil))
theorem k_is_whole:Keeps n_is_whole i_is_whole sp_is_whole:=by
 have e:sp_is_whole=spL_whole:=rfl
 rw [e]; exact kL_whole
theorem Yp {μ:Mem}:∀ {l:List D},Zaa μ l=true->∀ d∈l,good μ d=true
 | [],_,d,h=>by simp at h
 | e :: l,g,d,h=>by
  simp only [Zaa,Bool.and_eq_true] at g
  rcases List.mem_cons.mp h with rfl | h
  ·exact g.1
  ·exact Yp g.2 d h
theorem at_mem {l:List D} {i:Nat} (h:i < l.length):∃ d,l[i]? = some d/\d∈l:=⟨l[i],List.getElem?_eq_getElem h,List.getElem_mem h⟩
theorem kL_odd:Keeps nL_odd iL_odd spL_odd:=by
 intro ds μ Q h
 unfold spL_odd at h
 split at h
 ·obtain ⟨hb,h⟩:=h
  rename_i n
  simp [iL_odd,nL_odd,Wc,topZ,wSs,wS,wT,wE,wEs,wBin,CPowD,newL,lim]
  have hb2:Yh (μ ++ [.dic [.inr [97]] [.int 1]]) n:=by
   obtain ⟨b,e⟩:=hb
   exact ⟨b,by rw [List.getElem?_append_left (List.getElem?_eq_some_iff.mp e).1]; exact e⟩
  refine ⟨hb2,by decide,by decide,fun d b d0 d1=>?_⟩
  have hd:d.toNat < (odds μ.length).length:=by simp [odds]; omega
  obtain ⟨o,e1,e2⟩:=at_mem hd
  have e3:ixD 16 d=some d.toNat:=Zbt d0 d1
  have e4:wIdx (.lst (odds μ.length)) (.int d) (bx (μ ++ [.dic [.inr [97]] [.int 1]]) n b) Q:=by
   simp only [wIdx,Zb]
   rw [show (odds μ.length).length=16 from rfl,e3]
   simp only [Option.bind_some,e1]
   exact h o b e2
  exact e4
 ·exact h.elim
end DW
end
section
namespace DW
open PySem DW.K03
theorem W6 {μ ν:Mem} {n:Nat} (h:Yh μ n):Yh (μ ++ ν) n:=by
 obtain ⟨c,h⟩:=h
 exact ⟨c,by rw [List.getElem?_append_left (List.getElem?_eq_some_iff.mp h).1]; exact h⟩
end DW
end
section
namespace DW
open PySem
theorem Yb7 (μ:Mem) (n:Nat) (ds:List D):thaw μ (n + 1) (.tup ds) = .tup (ds.map (thaw μ n)):=rfl
theorem Za2 {μ:Mem} {k:Nat} {ds:List D} (h:μ[k]? = some (.lst ds)) (n:Nat):thaw μ (n + 1) (.loc k) = .lst (ds.map (thaw μ n)):=by
 show (match μ[k]? with | some (.lst ds)=>D.lst (ds.map (thaw μ n)) | _=>.loc k)=_
 rw [h]
end DW
end
section
namespace DW
open PySem
theorem Ybh {α:Type} {bnd:D->Rho->(Rho->Prop)->Prop} {bw:DEnds->Rho->Mem->Prop} {g:Mem->Prop} {Z:DEnds} (c:α->D) (l:List α) (I:List α->Rho->Mem->Prop)
  (hs:∀ pre x post,l=pre ++ x :: post->∀ ρ μ N,(∀ ρ μ,I (pre ++ [x]) ρ μ->N ρ μ)->I pre ρ μ->g μ/\bnd (c x) ρ fun ρ'=>bw { Z with nx:=N,ct:=N,bk:=Z.nx } ρ' μ)
  (he:∀ ρ μ,I l ρ μ->g μ/\Z.nx ρ μ) (ρ:Rho) (μ:Mem) (h0:I [] ρ μ):Zak bnd bw g Z (l.map c) ρ μ:=by
 refine Vi (fun ds ρ μ=>∃ pre post,l=pre ++ post/\ds=post.map c/\I pre ρ μ) ?_ ?_ _ _ _ ⟨[],l,rfl,rfl,h0⟩
 ·rintro d ds ρ μ N hN ⟨pre,post,e1,e2,h⟩
  cases post with
  | nil=>simp at e2
  | cons x post =>
   simp only [List.map_cons,List.cons.injEq] at e2
   obtain ⟨rfl,rfl⟩:=e2
   exact hs pre x post e1 ρ μ N (fun ρ μ q=>hN ρ μ ⟨pre ++ [x],post,by rw [e1]; simp,rfl,q⟩) h
 ·rintro ρ μ ⟨pre,post,e1,e2,h⟩
  have:post=[]:=by simpa using e2.symm
  subst this
  have:l=pre:=by simpa using e1
  exact he ρ μ (this ▸ h)
end DW
end
section
namespace DW.GOI
open PySem DW DW.K03
noncomputable abbrev Th:=Int×Int
noncomputable def thC (L:List Th):Cell:=.dic (L.map fun p=>.inl p.1) (L.map fun p=>.int p.2)
noncomputable def rest (T L:List Th):List Th:=L.filter fun p=>!(T.map (·.1)).contains p.1
noncomputable def sumL (T:List Th):Int:=(T.map (·.2)).sum
noncomputable def Ybc (T:List Th):D:=.tup ((T.map (·.1)).map D.int)
noncomputable def hasT (μ:Mem):Prop:=∃ i:Nat,μ[i]? = some .tbl
def sp_check_width:DSp:=fun ds μ Q=>∃ m:Int,ds=[.int m]/\2<=m/\m<=8/\Q .non μ
noncomputable def fs (n w:Int):Int:=2 + (n - 2) % (w - 1)
def sp_first_size:DSp:=fun ds μ Q=>∃ n w:Int,ds=[.int n,.int w]/\2<=w/\Q (.int (fs n w)) μ
def sp_pour_things:DSp:=fun ds μ Q=>∃ (n:Nat) (L T:List Th) (k:Int),ds=[.loc n,Ybc T,.int k]/\μ[n]? = some (thC L)/\(L.map (·.1)).Nodup/\(T.map (·.1)).Nodup/\(∀ t∈T,t∈L)/\L.length < 1000/\(∀ p∈L,p.1≠k)/\Q .non (μ.set n (thC (rest T L ++ [(k,sumL T)])))
def n_check_width:List Str:=["thing"]
noncomputable def i_check_width:Ss:=(.cons (.ite (.or (.not (.call "is_whole" sp_is_whole (.cons (.var 0) .nil))) (.not (.chain .LtE .LtE (.gbl "LEAST_WIDTH" (.int 2)) (.var 0) (.gbl "MOST_WIDTH" (.int 8))))) (.cons .nev .nil) .nil) .nil)
def n_first_size:List Str:=["many","width"]
noncomputable def i_first_size:Ss:=(.cons (.ret (.bin .Add (.cst (.int 2)) (.bin .Mod (.bin .Sub (.var 0) (.cst (.int 2))) (.bin .Sub (.var 1) (.cst (.int 1)))))) .nil)
def n_pour_things:List Str:=["there","taken","number","length","one"]
noncomputable def i_pour_things:Ss:=(.cons (.set 3 (.cst (.int 0))) (.cons (.for_ [4] false (.seq (.var 1)) (.cons (.aug 3 .Add (.sqm "pop" (.var 0) (.cons (.var 4) .nil))) .nil)) (.cons (.dput (.var 0) (.var 2) (.var 3)) .nil)))
theorem k_check_width:Keeps n_check_width i_check_width sp_check_width:=by
 rintro ds μ Q ⟨m,rfl,h1,h2,h⟩
 simpa [i_check_width,n_check_width,Wc,topZ,wSs,wS,wT,wE,wEs,sp_is_whole,wBl,wCmp,wTru,truth,h1,h2] using h
theorem k_first_size:Keeps n_first_size i_first_size sp_first_size:=by
 rintro ds μ Q ⟨n,w,rfl,hw,h⟩
 simp only [i_first_size,n_first_size,Wc,topZ,wSs,wS,wE,wBin,List.map_cons,List.map_nil,List.length_cons,List.length_nil,List.cons_append,List.nil_append,List.getElem?_cons_zero,List.getElem?_cons_succ]
 exact ⟨by omega,h⟩
theorem Wah:∀ {L:List Th} {p:Th},(L.map (·.1)).Nodup->p∈L->V7 (L.map fun p=>(Sum.inl p.1:DKey)) (L.map fun p=>D.int p.2) (.inl p.1)=some (.int p.2)
 | [],p,_,h=>by simp at h
 | q :: L,p,hn,h=>by
  simp only [List.map_cons,List.nodup_cons] at hn
  simp only [List.map_cons,V7]
  by_cases e:q.1=p.1
  ·rw [if_pos (by rw [e])]
   rcases List.mem_cons.mp h with rfl | h
   ·rfl
   ·exact absurd (show q.1∈L.map (·.1) by rw [e]; exact List.mem_map.mpr ⟨p,h,rfl⟩) hn.1
  ·rw [if_neg (by simpa using e)]
   rcases List.mem_cons.mp h with rfl | h
   ·exact absurd rfl e
   ·exact Wah hn.2 h
theorem Ybv:∀ {L:List Th} {p:Th},(L.map (·.1)).Nodup->p∈L->L.find? (fun q=>q.1 == p.1)=some p
 | [],p,_,h=>by simp at h
 | q :: L,p,hn,h=>by
  simp only [List.map_cons,List.nodup_cons] at hn
  rw [List.find?_cons]
  by_cases e:q.1=p.1
  ·have e':(q.1 == p.1)=true:=by simp [e]
   rw [e']
   rcases List.mem_cons.mp h with rfl | h
   ·rfl
   ·exact absurd (show q.1∈L.map (·.1) by rw [e]; exact List.mem_map.mpr ⟨p,h,rfl⟩) hn.1
  ·have e':(q.1 == p.1)=false:=by simp [e]
   rw [e']
   rcases List.mem_cons.mp h with rfl | h
   ·exact absurd rfl e
   ·exact Ybv hn.2 h
theorem Wbw (k:Int):∀ L:List Th,Xu (L.map fun p=>(Sum.inl p.1:DKey)) (.inl k)=(L.filter fun p=>p.1 != k).map (fun p=>(Sum.inl p.1:DKey))/\Yu (L.map fun p=>(Sum.inl p.1:DKey)) (L.map fun p=>D.int p.2) (.inl k)=(L.filter fun p=>p.1 != k).map fun p=>D.int p.2
 | []=>⟨rfl,rfl⟩
 | p :: L=>by
  obtain ⟨h1,h2⟩:=Wbw k L
  simp only [List.map_cons,Xu,Yu]
  by_cases e:p.1=k
  ·have e':(p.1 != k)=false:=by simp [e]
   rw [if_pos (by rw [e]),if_pos (by rw [e]),List.filter_cons,e']
   exact ⟨h1,h2⟩
  ·have e':(p.1 != k)=true:=by simp [e]
   rw [if_neg (by simpa using e),if_neg (by simpa using e),List.filter_cons,e']
   simp [h1,h2]
theorem Vbm (T L:List Th) (t:Th):rest (T ++ [t]) L=(rest T L).filter fun p=>p.1 != t.1:=by
 unfold rest
 rw [List.filter_filter]
 refine List.filter_congr fun p _=>?_
 by_cases e:p.1=t.1 <;> by_cases e2:p.1∈T.map (·.1) <;> simp_all
theorem Zac {T L:List Th} (h:(L.map (·.1)).Nodup):((rest T L).map (·.1)).Nodup:=h.sublist (List.filter_sublist.map _)
theorem k_pour_things:Keeps n_pour_things i_pour_things sp_pour_things:=by
 rintro ds μ Q ⟨n,L,T,k,rfl,hn,hnd,htd,hT,hl,hk,h⟩
 have hs:∀ c,(List.set μ n c)[n]? = some c:=fun c=>by rw [List.getElem?_set_self]; exact (List.getElem?_eq_some_iff.mp hn).1
 simp only [i_pour_things,n_pour_things,Wc,topZ,wSs,wS,wE,wEs,wI,Ybc,wSeq,List.map_cons,List.map_nil,List.length_cons,List.length_nil,List.cons_append,List.nil_append,List.getElem?_cons_zero,List.getElem?_cons_succ,List.replicate,List.set_cons_succ,List.set_cons_zero]
 rw [List.map_map]
 have r0:rest [] L=L:=by simp [rest]
 refine Ybh (D.int ∘ fun p:Th=>p.1) T (fun pre ρ μ'=>∃ v,ρ=[some (.loc n),some (.tup (T.map (D.int ∘ fun p:Th=>p.1))),some (.int k),some (.int (sumL pre)),v]/\μ'=μ.set n (thC (rest pre L))) ?_ ?_ _ _ ⟨none,rfl,?_⟩
 ·rintro pre t post e ρ μ1 N hN ⟨v,rfl,rfl⟩
  refine ⟨trivial,?_⟩
  simp only [Zq,Function.comp_apply,List.set_cons_succ,List.set_cons_zero,List.getElem?_cons_zero,List.getElem?_cons_succ]
  have ht:t∈L:=hT t (by rw [e]; simp)
  have hpre:t.1 ∉ pre.map (·.1):=by
   rw [e,List.map_append,List.map_cons] at htd
   intro z
   exact (List.nodup_append.mp htd).2.2 t.1 z t.1 (by simp) rfl
  have htr:t∈rest pre L:=by
   unfold rest
   rw [List.mem_filter]
   exact ⟨ht,by simpa using hpre⟩
  have hlk:=Wah (Zac (T:=pre) hnd) htr
  obtain ⟨d1,d2⟩:=Wbw t.1 (rest pre L)
  refine ⟨by simp [isSq,isDc,hs,thC],?_⟩
  have e1:∀ (Q:QD),wSqm "pop" (.loc n) [.int t.1] (μ.set n (thC (rest pre L))) Q=Q (.int t.2) (μ.set n (thC (rest (pre ++ [t]) L))):=fun Q=>by
   unfold wSqm
   rw [if_neg (by decide),if_pos rfl]
   simp only [wDpo,hs,thC,keyD,hlk,d1,d2,Vbm,List.set_set]
  rw [e1]
  simp only [wInt]
  refine hN _ _ ⟨some (.int t.1),?_,rfl⟩
  simp [sumL]
 ·rintro ρ μ1 ⟨v,rfl,rfl⟩
  refine ⟨trivial,?_⟩
  simp only [List.getElem?_cons_zero,List.getElem?_cons_succ,Wbh,hs,thC,keyD]
  have hnk:(Sum.inl k:DKey) ∉ (rest T L).map fun p=>(Sum.inl p.1:DKey):=by
   intro z
   obtain ⟨p,hp,e⟩:=List.mem_map.mp z
   have:=hk p ((List.mem_filter.mp hp).1)
   injection e with e
   exact this e
  refine ⟨?_,?_⟩
  ·have:(rest T L).length<=L.length:=List.length_filter_le _ _
   simp only [List.length_map,lim]; omega
  ·simp only [Zay,Vax,if_neg hnk,List.set_set]
   simpa [thC] using h
 ·rw [r0]
  exact (List.ext_getElem? fun i=>by
   by_cases hi:i=n
   ·subst hi; rw [hs,hn]
   ·rw [List.getElem?_set_ne (Ne.symm hi)]).symm
noncomputable def L0 (ls:List Int):List Th:=(List.range ls.length).map fun (i:Nat)=>((i:Int),ls.getD i 0)
end DW.GOI
end
section
namespace DW.TRC
open PySem DW DW.K03
noncomputable def natD (q:Nat):D:=.int (q:Int)
noncomputable def Fr0 (μ μ':Mem):Prop:=μ.length<=μ'.length/\∀ i,i < μ.length->μ'[i]? = μ[i]?
theorem Fr0.get {a b:Mem} {i:Nat} {c:Cell} (h:Fr0 a b) (k:a[i]? = some c):b[i]? = some c:=(h.2 i (List.getElem?_eq_some_iff.mp k).1).trans k
noncomputable def Dr (μ:Mem) (t:D):Prop:=(∃ i:Nat,i < 64/\t=natD i)∨∃ n:Nat,μ[n]? = some (.dic [.inr [97]] [.int 1])/\t∈odds n
noncomputable def Sh (p:PyData):Bool:=p.showable && p.leavesShort 60 && decide (p.weight<=200) && decide (p.depth<=5)
theorem small:∀ i:Nat,i < 64->Sh (PyData.int (i:Int))=true:=by decide +kernel
theorem odd_sh:Sh .none && Sh (.bool true) && Sh (.bool false) && Sh (.int (-1)) && Sh (.str ⟨#[49]⟩) && Sh (.str ⟨#[]⟩) && Sh (.str ⟨#[97,98]⟩) && Sh (.tuple []) && Sh (.list []) && Sh (.tuple [.int 1]) && Sh (.list [.int 1])
  && Sh (.dict [(.str ⟨#[97]⟩,.int 1)]) && Sh (.tuple [.int 0,.int 1]) && Sh (.int (10 ^ 39)) && Sh (.list [.str ⟨#[97]⟩]) && Sh (.tuple [.tuple [.int 1,.str ⟨#[97]⟩]])=true:=by decide +kernel
theorem wMeth_loc {m:String} {n:Nat} {xs ds:List D} {μ:Mem} {Q:QD} (h:μ[n]? = some (.lst xs)) (z:Wj m n xs ds μ Q):Xy m (.loc n) ds μ Q:=by
 simp only [Xy,h]
 exact z
end DW.TRC
end
section
namespace DW.K42
open PySem DW DW.K03 DW.GOI
theorem Va6:∀ (ns acc:List Int),(acc ++ ns).Nodup->(ns.foldl (fun (a:List Int) x=>if a.any (· == x) then a else a ++ [x]) acc)=acc ++ ns
 | [],acc,_=>by simp
 | x :: ns,acc,h=>by
  have hx:acc.any (· == x)=false:=by
   rw [List.any_eq_false]
   intro y hy z
   have z:y=x:=by simpa using z
   have:=(List.nodup_append.mp h).2.2 y hy x (by simp)
   exact this z
  simp only [List.foldl_cons,hx,Bool.false_eq_true,if_false]
  rw [Va6 ns (acc ++ [x]) (by simpa using h)]
  simp
theorem Xay {ns:List Int} (h:ns.Nodup):Yt ns=ns.length:=by
 unfold Yt
 rw [Va6 ns [] (by simpa using h)]
 simp
noncomputable def lnOf (L:List Th) (k:Int):Int:=((L.find? fun p=>p.1 == k).map (·.2)).getD 0
noncomputable def pick (L:List Th) (size:Nat) (d:D):Option (List Th):=match d with
 | .tup es=>(match We es with
  | some ns=>if ns.length=size/\ns.Nodup/\∀ k∈ns,k∈L.map (·.1) then some (ns.map fun k=>(k,lnOf L k)) else none
  | none=>none)
 | _=>none
noncomputable def shB (T L:List Th):Bool:=(rest T L).any fun r=>T.any fun t=>decide (r.2 < t.2)
noncomputable def go (w:Nat):List D->List Th->Nat->Int->Bool
 | [],L,_,_=>L.length == 1
 | d :: ds,L,size,k=>match pick L size d with
  | none=>false
  | some T=>if shB T L=true then false else go w ds (rest T L ++ [(k,sumL T)]) w (k + 1)
theorem ln_of {L:List Th} (hn:(L.map (·.1)).Nodup) {p:Th} (hp:p∈L):lnOf L p.1=p.2:=by
 unfold lnOf; rw [Ybv hn hp]; rfl
structure Picked (L:List Th) (size:Nat) (d:D) (T:List Th):Prop where
 eq:d=Ybc T
 len:T.length=size
 nd:(T.map (·.1)).Nodup
 mem:∀ t∈T,t∈L
theorem Wam {L:List Th} (hn:(L.map (·.1)).Nodup) {size:Nat} {d:D} {T:List Th} (h:pick L size d=some T):Picked L size d T:=by
 unfold pick at h
 split at h
 ·rename_i es
  split at h
  ·rename_i ns hns
   split at h
   ·rename_i hc
    cases h
    obtain ⟨h1,h2,h3⟩:=hc
    have e1:(ns.map fun k=>(k,lnOf L k)).map (·.1)=ns:=by simp [Function.comp_def]
    refine ⟨?_,by simpa using h1,by rw [e1]; exact h2,fun t ht=>?_⟩
    ·rw [Ybc,e1,ints_map hns]
    ·obtain ⟨k,hk,rfl⟩:=List.mem_map.mp ht
     obtain ⟨p,hp,rfl⟩:=List.mem_map.mp (h3 k hk)
     rw [ln_of hn hp]; exact hp
   ·cases h
  ·cases h
 ·cases h
theorem sub_len:∀ {ns m:List Int},ns.Nodup->(∀ k∈ns,k∈m)->ns.length<=m.length
 | [],m,_,_=>by simp
 | a :: ns,m,hn,h=>by
  rw [List.nodup_cons] at hn
  have ha:=h a (by simp)
  have h1:=sub_len (ns:=ns) (m:=m.erase a) hn.2 fun k hk=>by
   have:k≠a:=fun e=>hn.1 (e ▸ hk)
   exact (List.mem_erase_of_ne this).mpr (h k (by simp [hk]))
  rw [List.length_erase_of_mem ha] at h1
  have:=List.length_pos_of_mem ha
  simp; omega
theorem Wbb {L:List Th} {size:Nat} {d:D} (hs:L.length < size):pick L size d=none:=by
 unfold pick
 split
 ·split
  ·rename_i ns _
   split
   ·rename_i hc
    have:=sub_len hc.2.1 hc.2.2
    simp at this
    omega
   ·rfl
  ·rfl
 ·rfl
theorem Yay:∀ (ns acc:List Int),acc.Nodup->(ns.foldl (fun (a:List Int) x=>if a.any (· == x) then a else a ++ [x]) acc).length<=acc.length + ns.length/\((ns.foldl (fun (a:List Int) x=>if a.any (· == x) then a else a ++ [x]) acc).length=acc.length + ns.length->(acc ++ ns).Nodup)
 | [],acc,h=>⟨by simp,fun _=>by simpa using h⟩
 | x :: ns,acc,h=>by
  rw [List.foldl_cons]
  by_cases c:acc.any (· == x)=true
  ·rw [if_pos c]
   obtain ⟨h1,h2⟩:=Yay ns acc h
   refine ⟨by rw [List.length_cons]; omega,fun e=>?_⟩
   rw [List.length_cons] at e
   omega
  ·rw [if_neg c]
   have hx:x ∉ acc:=fun z=>c (List.any_eq_true.mpr ⟨x,z,by simp⟩)
   obtain ⟨h1,h2⟩:=Yay ns (acc ++ [x]) (by rw [List.nodup_append]; exact ⟨h,by simp,fun a ha b hb e=>by simp at hb; subst hb; subst e; exact hx ha⟩)
   rw [List.length_append,List.length_singleton] at h1 h2
   refine ⟨by rw [List.length_cons]; omega,fun e=>?_⟩
   rw [List.length_cons] at e
   have:=h2 (by omega)
   simpa using this
theorem V3 (ns:List Int):Yt ns=ns.length<->ns.Nodup:=by
 constructor
 ·intro h
  have:=(Yay ns [] List.nodup_nil).2 (by unfold Yt at h; simpa using h)
  simpa using this
 ·exact Xay
end DW.K42
end
section
namespace DW.K42
open PySem DW DW.K03 DW.GOI
mutual
theorem W3 {μ:Mem} (ν:Mem):∀ d:D,good μ d=true->good (μ ++ ν) d=true
 | .loc n,h=>by
  simp only [good] at h ⊢
  unfold dicB at h ⊢
  split at h
  ·rename_i q
   rw [List.getElem?_append_left (List.getElem?_eq_some_iff.mp q).1,q]
  ·cases h
 | .tup ds,h=>by simp only [good] at h ⊢; exact Y7 ν ds h
 | .lst ds,h=>by simp only [good] at h ⊢; exact Y7 ν ds h
 | .str x,h=>by simpa [good] using h
 | .int _,_=>rfl
 | .bl _,_=>rfl
 | .non,_=>rfl
 | .ro _,h=>by simp [good] at h
 | .dic _ _,h=>by simp [good] at h
 | .fdc _ _,h=>by simp [good] at h
theorem Y7 {μ:Mem} (ν:Mem):∀ ds:List D,Zaa μ ds=true->Zaa (μ ++ ν) ds=true
 | [],_=>rfl
 | d :: ds,h=>by
  simp only [Zaa,Bool.and_eq_true] at h ⊢
  exact ⟨W3 ν d h.1,Y7 ν ds h.2⟩
end
theorem Xw {μ:Mem}:∀ {l:List D},(∀ d∈l,good μ d=true)->Zaa μ l=true
 | [],_=>rfl
 | d :: l,h=>by simp only [Zaa,Bool.and_eq_true]; exact ⟨h d (by simp),Xw fun e he=>h e (by simp [he])⟩
def sp_are_unlike_things:DSp:=fun ds μ Q=>∃ (n:Nat) (L:List Th) (size:Nat) (d:D),ds=[d,.loc n,.int (size:Int)]/\μ[n]? = some (thC L)/\good μ d=true/\(∀ es,d = .tup es->es.length < 1000)/\Q (.bl (pick L size d).isSome) μ
def sp_leaves_shorter:DSp:=fun ds μ Q=>∃ (n:Nat) (L T:List Th),ds=[Ybc T,.loc n]/\μ[n]? = some (thC L)/\(L.map (·.1)).Nodup/\T≠[]/\(∀ t∈T,t∈L)/\Q (.bl (shB T L)) μ
def n_are_unlike_things:List Str:=["thing","there","size"]
noncomputable def i_are_unlike_things:Ss:=(.cons (.ite (.or (.not (.isin (.var 0) "tuple")) (.cmp .NotEq (.blt "len" (.cons (.var 0) .nil)) (.var 2))) (.cons (.ret (.cst (.bl false))) .nil) .nil) (.cons (.ite (.not (.blt "all" (.cons (.comp false 1 false [1] (.and (.call "is_whole" sp_is_whole (.cons (.var 0) .nil)) (.cmp .In (.var 0) (.var 1))) (.seq (.var 0)) .nil) .nil))) (.cons (.ret (.cst (.bl false))) .nil) .nil) (.cons (.ret (.cmp .Eq (.lset (.var 0)) (.var 2))) .nil)))
def n_leaves_shorter:List Str:=["taken","there","longest"]
noncomputable def i_leaves_shorter:Ss:=(.cons (.set 2 (.blt "max" (.cons (.comp false 1 false [1] (.dget (.var 1) (.var 0)) (.seq (.var 0)) .nil) .nil))) (.cons (.ret (.frz (.blt "any" (.cons (.comp false 1 false [1,2,0] (.cmp .Lt (.dget (.var 1) (.var 0)) (.var 2)) (.seq (.var 1)) (.cons (.cmp .NotIn (.var 0) (.var 3)) .nil)) .nil)) (some 1))) .nil))
noncomputable def inB (L:List Th):D->Bool
 | .int k=>(L.map (·.1)).contains k
 | _=>false
theorem Zb4 (L:List Th):∀ es:List D,es.all (inB L)=true<->∃ ns,We es=some ns/\∀ k∈ns,k∈L.map (·.1)
 | []=>by simp [We]
 | d :: es=>by
  have ih:=Zb4 L es
  rw [List.all_cons,Bool.and_eq_true,ih]
  constructor
  ·rintro ⟨h1,ns,h2,h3⟩
   cases d with
   | int k=>exact ⟨k :: ns,by simp [We,h2],fun j hj=>by
     rcases List.mem_cons.mp hj with rfl | hj
     ·simpa [inB] using h1
     ·exact h3 j hj⟩
   | _=>simp [inB] at h1
  ·rintro ⟨ns,h1,h2⟩
   cases d with
   | int k =>
    simp only [We] at h1
    cases q:We es with
    | none=>rw [q] at h1; cases h1
    | some ms =>
     rw [q] at h1
     simp only [Option.map_some,Option.some.injEq] at h1
     subst h1
     exact ⟨by have:=h2 k (by simp); simpa [inB] using this,ms,rfl,fun j hj=>h2 j (by simp [hj])⟩
   | _=>simp [We] at h1
theorem Ya5:∀ {es:List D} {ns:List Int},We es=some ns->ns.length=es.length:=fun {es ns} h=>by rw [ints_map h]; simp
theorem hasK_in (L:List Th) (k:Int):hasK (L.map fun p=>(Sum.inl p.1:DKey)) (.inl k)=(L.map (·.1)).contains k:=by
 rw [Bool.eq_iff_iff,Va5,List.contains_iff_mem]
 constructor
 ·intro h
  obtain ⟨p,hp,e⟩:=List.mem_map.mp h
  injection e with e
  exact List.mem_map.mpr ⟨p,hp,e⟩
 ·intro h
  obtain ⟨p,hp,e⟩:=List.mem_map.mp h
  exact List.mem_map.mpr ⟨p,hp,by rw [e]⟩
theorem Waj {α:Type} (f:α->Bool):∀ l:List α,allB (l.map fun x=>D.bl (f x))=some (l.all f)
 | []=>rfl
 | a :: l=>by simp [allB,Waj f l]
theorem Xa8 {α:Type} (f:α->Bool):∀ l:List α,anyB (l.map fun x=>D.bl (f x))=some (l.any f)
 | []=>rfl
 | a :: l=>by simp [anyB,Xa8 f l]
theorem k_are_unlike_things:Keeps n_are_unlike_things i_are_unlike_things sp_are_unlike_things:=by
 rintro ds μ Q ⟨n,L,size,d,rfl,hn,hg,hsm,h⟩
 have hq:(μ[n]?)=some (.dic (L.map fun p=>.inl p.1) (L.map fun p=>.int p.2)):=hn
 have no:∀ t,tyOf μ d=some t->(t == "tuple")=false->pick L size d=none->wSs i_are_unlike_things (topZ Q) (Wc n_are_unlike_things [d,.loc n,.int (size:Int)]) μ:=by
  intro t h1 h2 h3
  rw [h3] at h
  have h4:(t == "bool" && ("tuple" : String) == "int")=false:=by
   have:(("tuple" : String) == "int")=false:=rfl
   rw [this,Bool.and_false]
  simp only [i_are_unlike_things,n_are_unlike_things,Wc,topZ,wSs,wS,wT,wE,wEs,List.map_cons,List.map_nil,List.length_cons,List.length_nil,List.cons_append,List.nil_append,List.getElem?_cons_zero,Ws,h1,isTy,h2,h4,Bool.or_self,wBl,Bool.not_false,if_true]
  exact h
 cases d with
 | tup es =>
  have hes:es.length < 1000:=hsm es rfl
  have hge:∀ e∈es,good μ e=true:=Yp (by simpa [good] using hg)
  simp only [i_are_unlike_things,n_are_unlike_things,Wc,topZ,wSs,wS,wT,wE,wEs,wI,newL,List.map_cons,List.map_nil,List.length_cons,List.length_nil,List.cons_append,List.nil_append,List.getElem?_cons_zero,List.getElem?_cons_succ,List.replicate,Ws,tyOf,isTy,beq_self_eq_true,Bool.true_or,wBl,Bool.not_true,Bool.false_eq_true,if_false,wBlt,lenOf,Zb,Option.map_some,wCmp,wSeq]
  refine ⟨rfl,rfl,?_⟩
  by_cases c:es.length=size
  ·have e1:eqD (.int ((es.length:Nat):Int)) (.int (size:Int))=true:=by simp [eqD,c]
   simp only [e1,Bool.not_true,Bool.false_eq_true,if_false]
   have ei:es=es.map fun d=>d:=by simp
   conv=>arg 5; rw [ei]
   refine Wk (g:=fun _=>True) (fun d:D=>d) (fun d=>D.bl (inB L d)) trivial _ _ ?_ ?_
   ·intro e he Y N q
    have hge:=hge e he
    cases e with
    | int k =>
     simp only [bindC,wTs,List.getElem?_cons_zero,List.getElem?_cons_succ,if_true,sp_is_whole,wBl,Option.join_some,hq,Zb,wInD,keyD,hasK_in]
     have e2:(false != (L.map (·.1)).contains k)=(L.map (·.1)).contains k:=by cases (L.map (·.1)).contains k <;> rfl
     rw [e2]; exact q
    | loc m =>
     simp only [good] at hge
     simp only [bindC,wTs,List.getElem?_cons_zero,List.getElem?_cons_succ,if_true,sp_is_whole,wBl,Bool.false_eq_true,if_false]
     exact ⟨hge,q⟩
    | ro _=>simp [good] at hge
    | fdc _ _=>simp [good] at hge
    | _ =>
     simp only [bindC,wTs,List.getElem?_cons_zero,List.getElem?_cons_succ,if_true,sp_is_whole,wBl,Bool.false_eq_true,if_false]
     exact q
   ·simp only [List.nil_append,Zf,Zb,Option.bind_some,Waj,wTru,truth]
    by_cases ca:es.all (inB L)=true
    ·simp only [ca,Bool.not_true,Bool.false_eq_true,if_false]
     obtain ⟨ns,i1,i2⟩:=(Zb4 L es).mp ca
     have il:=Ya5 i1
     simp only [Zbh,Zb,Option.bind_some,i1]
     refine ⟨by omega,rfl,rfl,?_⟩
     have ep:(pick L size (.tup es)).isSome=eqD (.int ((Yt ns:Nat):Int)) (.int (size:Int)):=by
      unfold pick
      simp only [i1]
      by_cases cn:ns.Nodup
      ·rw [if_pos ⟨by omega,cn,i2⟩]
       have:=(V3 ns).mpr cn
       simp [eqD,this]; omega
      ·rw [if_neg (fun z=>cn z.2.1)]
       have:Yt ns≠ns.length:=fun z=>cn ((V3 ns).mp z)
       simp [eqD]; omega
     rw [<- ep]; exact h
    ·have ca':es.all (inB L)=false:=by simpa using ca
     simp only [ca',Bool.not_false,if_true]
     have ep:pick L size (.tup es)=none:=by
      unfold pick
      simp only
      split
      ·rename_i ns i1
       rw [if_neg (fun z=>ca ((Zb4 L es).mpr ⟨ns,i1,z.2.2⟩))]
      ·rfl
     rw [ep] at h
     exact h
  ·have e1:eqD (.int ((es.length:Nat):Int)) (.int (size:Int))=false:=by simp [eqD]; omega
   simp only [e1,Bool.not_false,if_true]
   have ep:pick L size (.tup es)=none:=by
    unfold pick
    simp only
    split
    ·rename_i ns i1
     rw [if_neg (fun z=>c (by rw [<- Ya5 i1]; exact z.1))]
    ·rfl
   rw [ep] at h
   exact h
 | loc m =>
  simp only [good] at hg
  obtain ⟨ks,vs,hm⟩:=Za7 hg
  exact no "dict" (by simp [tyOf,hm]) rfl rfl
 | ro _=>simp [good] at hg
 | dic _ _=>simp [good] at hg
 | fdc _ _=>simp [good] at hg
 | non=>exact no _ rfl rfl rfl
 | bl _=>exact no _ rfl rfl rfl
 | int _=>exact no _ rfl rfl rfl
 | str _=>exact no _ rfl rfl rfl
 | lst _=>exact no _ rfl rfl rfl
theorem Vav {b:Int}:∀ (l:List Int) (i:Int),b < l.foldl max i<->b < i∨∃ x∈l,b < x
 | [],i=>by simp
 | a :: l,i=>by
  rw [List.foldl_cons,Vav l (max i a)]
  have e:b < max i a<->b < i∨b < a:=by omega
  rw [e]
  constructor
  ·rintro ((h | h) | ⟨x,hx,h⟩)
   ·exact .inl h
   ·exact .inr ⟨a,by simp,h⟩
   ·exact .inr ⟨x,by simp [hx],h⟩
  ·rintro (h | ⟨x,hx,h⟩)
   ·exact .inl (.inl h)
   ·rcases List.mem_cons.mp hx with rfl | hx
    ·exact .inl (.inr h)
    ·exact .inr ⟨x,hx,h⟩
theorem Vaw (n:Nat) (T:List Th):flats n (T.map fun x=>D.int x.1)=true:=by
 induction T with
 | nil=>rfl
 | cons a T ih=>simp [flats,flat,ih]
theorem any_nums (k:Int) (T:List Th):(T.map fun x=>D.int x.1).any (fun d=>eqD d (.int k))=(T.map (·.1)).contains k:=by
 induction T with
 | nil=>rfl
 | cons a T ih =>
  have e:(a.1 == k)=(k == a.1):=by rw [Bool.eq_iff_iff,beq_iff_eq,beq_iff_eq]; exact eq_comm
  simp only [List.map_cons,List.any_cons,List.contains_cons,ih,eqD,e]
theorem k_leaves_shorter:Keeps n_leaves_shorter i_leaves_shorter sp_leaves_shorter:=by
 rintro ds μ Q ⟨n,L,T,rfl,hn,hnd,hne,hm,h⟩
 have hq:(μ[n]?)=some (.dic (L.map fun p=>.inl p.1) (L.map fun p=>.int p.2)):=hn
 have hml:n < μ.length:=(List.getElem?_eq_some_iff.mp hn).1
 have e5:We (T.map fun x=>D.int x.2)=some (T.map (·.2)):=Wo _ _
 simp only [i_leaves_shorter,n_leaves_shorter,Wc,topZ,wSs,wS,wE,wEs,wI,Ybc,wSeq,newL,List.map_map,List.map_cons,List.map_nil,List.length_cons,List.length_nil,List.cons_append,List.nil_append,List.getElem?_cons_zero,List.getElem?_cons_succ,List.replicate]
 rw [show (T.map (D.int ∘ fun x=>x.1))=T.map (fun x=>D.int x.1) from rfl]
 refine Wk (g:=fun _=>True) (fun p:Th=>D.int p.1) (fun p=>D.int p.2) trivial _ _ ?_ ?_
 ·intro p hp Y N q
  simpa [bindC,wTs,Vbh,hq,keyD,Wah hnd (hm p hp)] using q
 ·obtain ⟨t,T',rfl⟩:∃ t T',T=t :: T':=by cases T with | nil=>exact absurd rfl hne | cons a l=>exact ⟨a,l,rfl⟩
  simp only [List.nil_append,wBlt,Zf,Zb,Option.bind_some,e5]
  simp only [List.map_cons,List.set_cons_succ,List.set_cons_zero,List.getElem?_cons_zero,List.getElem?_cons_succ,hq]
  intro o
  have hset:∀ c,(μ.set n c)[n]? = some c:=fun c=>List.getElem?_set_self hml
  simp only [wSeq,hset]
  refine ⟨L.map (·.1),by simp,?_⟩
  rw [List.map_map,show (D.int ∘ fun x:Th=>x.1)=(fun x:Th=>D.int x.1) from rfl]
  refine Yi (fun p:Th=>D.int p.1) (fun p=>!((t :: T').map (·.1)).contains p.1) (fun p=>D.bl (decide (p.2 < (T'.map (·.2)).foldl max t.2))) (by exact hset _) _ _ ?_ ?_
  ·intro p hp Y N q
   have ek:=any_nums p.1 (t :: T')
   simp only [List.map_cons] at ek
   simp only [bindC,wTs,wT,wE,wEs,wCmp,List.getElem?_cons_zero,List.getElem?_cons_succ,List.map_cons,List.map_nil,List.cons_append,List.nil_append,Option.join_some,Zb,ek,wBl]
   refine ⟨Vaw _ (t :: T'),rfl,?_⟩
   by_cases c:((t :: T').map (·.1)).contains p.1=true
   ·simp only [List.map_cons] at c
    simp only [List.map_cons,c,Bool.not_true,Bool.false_eq_true,if_false] at q ⊢
    exact q
   ·have c':((t :: T').map (·.1)).contains p.1=false:=by simpa using c
    simp only [List.map_cons] at c'
    simp only [List.map_cons,c',Bool.not_false,if_true] at q ⊢
    simp only [Vbh,hset,keyD,Wah hnd hp,ltD]
    exact q
  ·have hback:(μ.set n (.fdi o (L.map fun p=>.inl p.1) (L.map fun p=>.int p.2))).set n (.dic (L.map fun p=>.inl p.1) (L.map fun p=>.int p.2))=μ:=by
    rw [List.set_set]
    exact (List.ext_getElem? fun i=>by
     by_cases hi:i=n
     ·subst hi; rw [hset,hq]
     ·rw [List.getElem?_set_ne (Ne.symm hi)])
   have eb:(List.filter (fun p=>!((t :: T').map (·.1)).contains p.1) L).any (fun p=>decide (p.2 < (T'.map (·.2)).foldl max t.2))=shB (t :: T') L:=by
    unfold shB rest
    rw [Bool.eq_iff_iff,List.any_eq_true,List.any_eq_true]
    have key:∀ r:Th,decide (r.2 < (T'.map (·.2)).foldl max t.2)=(t :: T').any fun t=>decide (r.2 < t.2):=fun r=>by
     rw [Bool.eq_iff_iff,decide_eq_true_iff,Vav,List.any_eq_true]
     constructor
     ·rintro (h | ⟨x,hx,h⟩)
      ·exact ⟨t,by simp,by simpa using h⟩
      ·obtain ⟨u,hu,rfl⟩:=List.mem_map.mp hx
       exact ⟨u,by simp [hu],by simpa using h⟩
     ·rintro ⟨u,hu,hlt⟩
      have hlt:=of_decide_eq_true hlt
      rcases List.mem_cons.mp hu with e | hu
      ·rw [e] at hlt; exact .inl hlt
      ·exact .inr ⟨u.2,List.mem_map.mpr ⟨u,hu,rfl⟩,hlt⟩
    simp only [key]
   simp only [List.nil_append,Xa8,hback,eb]
   exact ⟨hset _,h⟩
noncomputable def goD (ls:List Int) (w:Nat) (d:D):Bool:=match d with
 | .lst ds=>go w ds (L0 ls) (fs ls.length w).toNat ls.length
 | _=>false
noncomputable def small (d:D):Prop:=∀ ds,d = .lst ds->ds.length < 1000/\∀ es,D.tup es∈ds->es.length < 1000
def sp_is_going:DSp:=fun ds μ Q=>∃ (d:D) (ls:List Int) (w:Nat),ds=[d,.lst (ls.map D.int),.int (w:Int)]/\good μ d=true/\small d/\1<=ls.length/\ls.length<=60/\2<=w/\w<=8/\∀ ν,Q (.bl (goD ls w d)) (μ ++ ν)
def n_is_going:List Str:=["thing","lengths","width","there","size","at","taken"]
noncomputable def tlI:Ss:=(.cons (.ite (.or (.not (.call "are_unlike_things" sp_are_unlike_things (.cons (.var 6) (.cons (.var 3) (.cons (.var 4) .nil))))) (.call "leaves_shorter" sp_leaves_shorter (.cons (.var 6) (.cons (.var 3) .nil)))) (.cons (.ret (.cst (.bl false))) .nil) .nil) (.cons (.exp (.call "pour_things" sp_pour_things (.cons (.var 3) (.cons (.var 6) (.cons (.bin .Add (.blt "len" (.cons (.var 1) .nil)) (.var 5)) .nil))))) (.cons (.set 4 (.var 2)) .nil)))
noncomputable def i_is_going:Ss:=(.cons (.exp (.call "check_width" sp_check_width (.cons (.var 2) .nil))) (.cons (.ite (.not (.isin (.var 0) "list")) (.cons (.ret (.cst (.bl false))) .nil) .nil) (.cons (.set 3 (.bltD "dicten" (.var 1) (.cst .non))) (.cons (.set 4 (.call "first_size" sp_first_size (.cons (.blt "len" (.cons (.var 1) .nil)) (.cons (.var 2) .nil)))) (.cons (.for_ [5,6] true (.enum (.var 0)) tlI) (.cons (.ret (.cmp .Eq (.blt "len" (.cons (.var 3) .nil)) (.cst (.int 1)))) .nil))))))
theorem th0 (ls:List Int):(Cell.dic ((List.range ls.length).map fun (n:Nat)=>Sum.inl (n:Int)) (ls.map D.int))=thC (L0 ls):=by
 unfold thC L0
 rw [List.map_map,List.map_map]
 congr 1
 apply List.ext_getElem?
 intro i
 by_cases hi:i < ls.length
 ·simp [hi]
 ·simp [Nat.le_of_not_lt hi]
structure LOk (L:List Th) (k:Int):Prop where
 nd:(L.map (·.1)).Nodup
 lt:∀ p∈L,p.1 < k
 ge:∀ p∈L,0<=p.1
theorem LOk.step {L T:List Th} {k v:Int} (h:LOk L k) (hk:0<=k):LOk (rest T L ++ [(k,v)]) (k + 1):=by
 refine ⟨?_,fun p hp=>?_,fun p hp=>?_⟩
 ·rw [List.map_append,List.nodup_append]
  refine ⟨Zac h.nd,by simp,?_⟩
  intro a ha b hb e
  obtain ⟨p,hp',rfl⟩:=List.mem_map.mp ha
  have:=h.lt p (List.mem_filter.mp hp').1
  simp at hb
  subst hb
  omega
 ·rcases List.mem_append.mp hp with hp | hp
  ·have:=h.lt p (List.mem_filter.mp hp).1; omega
  ·simp at hp; subst hp; simp; omega
 ·rcases List.mem_append.mp hp with hp | hp
  ·exact h.ge p (List.mem_filter.mp hp).1
  ·simp at hp; subst hp; exact hk
theorem L0_ok (ls:List Int):LOk (L0 ls) (ls.length:Int):=by
 refine ⟨?_,fun p hp=>?_,fun p hp=>?_⟩
 ·simp only [L0,List.map_map,Function.comp_def]
  have:((List.range ls.length).map fun (i:Nat)=>(i:Int)).Nodup:=List.Pairwise.map _ (fun a b h (e:(a:Int)=(b:Int))=>h (Int.ofNat.inj e)) (List.nodup_range)
  exact this
 ·obtain ⟨i,hi,rfl⟩:=List.mem_map.mp hp
  have:=List.mem_range.mp hi
  simp; omega
 ·obtain ⟨i,hi,rfl⟩:=List.mem_map.mp hp
  simp
theorem Zbn {L T:List Th} (hT:T≠[]) (hm:∀ t∈T,t∈L):(rest T L).length + 1<=L.length:=by
 obtain ⟨t,ht⟩:∃ t,t∈T:=by cases T with | nil=>exact absurd rfl hT | cons a l=>exact ⟨a,by simp⟩
 have h1:t∈L.filter fun p=>!!(T.map (·.1)).contains p.1:=by
  rw [List.mem_filter]
  refine ⟨hm t ht,?_⟩
  simp
  exact ⟨t.2,ht⟩
 have h2:=List.length_pos_of_mem h1
 have h3:(L.filter fun p=>!(T.map (·.1)).contains p.1).length + (L.filter fun p=>!!(T.map (·.1)).contains p.1).length=L.length:=by
  induction L with
  | nil=>rfl
  | cons a l ih=>
   clear ih h1 h2 hm
   induction (a :: l) with
   | nil=>rfl
   | cons b m ih =>
    by_cases c:(T.map (·.1)).contains b.1=true
    ·simp only [List.filter_cons,c,Bool.not_true,Bool.not_false,Bool.false_eq_true,if_true,if_false,List.length_cons]; omega
    ·have c':(T.map (·.1)).contains b.1=false:=by simpa using c
     simp only [List.filter_cons,c',Bool.not_true,Bool.not_false,Bool.false_eq_true,if_true,if_false,List.length_cons]; omega
 unfold rest
 omega
theorem fs_ge {n w:Nat} (hw:2<=w):2<=fs (n:Int) (w:Int):=by
 unfold fs
 have:=Int.emod_nonneg ((n:Int) - 2) (show (w:Int) - 1≠0 by omega)
 omega
theorem k_is_going:Keeps n_is_going i_is_going sp_is_going:=by
 rintro ds μ Q ⟨d,ls,w,rfl,hg,hsm,hn,hn2,hw,hw2,h⟩
 have no:∀ t,tyOf μ d=some t->(t == "list")=false->goD ls w d=false->wSs i_is_going (topZ Q) (Wc n_is_going [d,.lst (ls.map D.int),.int (w:Int)]) μ:=by
  intro t h1 h2 h3
  rw [h3] at h
  have h4:(t == "bool" && ("list" : String) == "int")=false:=by
   have:(("list" : String) == "int")=false:=rfl
   rw [this,Bool.and_false]
  simp only [i_is_going,n_is_going,Wc,topZ,wSs,wS,wT,wE,wEs,List.map_cons,List.map_nil,List.length_cons,List.length_nil,List.cons_append,List.nil_append,List.getElem?_cons_zero,List.getElem?_cons_succ]
  refine ⟨w,rfl,by omega,by omega,?_⟩
  simp only [Ws,h1,isTy,h2,h4,Bool.or_self,wBl,Bool.not_false,if_true]
  have:=h []
  rwa [List.append_nil] at this
 cases d with
 | lst ds =>
  obtain ⟨hdl,hdt⟩:=hsm ds rfl
  have hgd:∀ e∈ds,good μ e=true:=Yp (by simpa [good] using hg)
  have e0:(if "dicten" = "{}" then μ ++ [Cell.dic [] []] else if "dicten" = "{t}" then μ ++ [Cell.dtc [] []] else μ)=μ:=by simp
  have e1:∀ (d e:D) (m:Nat),Zbi "dicten" m d e μ=wDen d μ:=fun d e m=>by funext Q; simp [Zbi]
  have e2:=th0 ls
  have e3:Zf μ (.lst (ls.map D.int))=some (ls.map D.int):=rfl
  have a1:∀ (c1:Cell),(μ ++ [c1])[μ.length]? = some c1:=fun c1=>by simp
  have s1:∀ (c1 c:Cell),(μ ++ [c1]).set μ.length c=μ ++ [c]:=fun c1 c=>by simp
  have step:∀ {Z:DEnds} {d:D} {post:List D} {L:List Th} {size j:Nat},d∈ds->LOk L ((ls.length + j:Nat):Int)->L.length<=60->2<=size->(go w (d :: post) L size ((ls.length + j:Nat):Int)=false->Z.rt (.bl false) (μ ++ [thC L]))->(∀ T,pick L size d=some T->go w (d :: post) L size ((ls.length + j:Nat):Int)=go w post (rest T L ++ [(((ls.length + j:Nat):Int),sumL T)]) w ((ls.length + j:Nat) + 1:Int)->T≠[]->(∀ t∈T,t∈L)->Z.nx [some (.lst ds),some (.lst (ls.map D.int)),some (.int (w:Int)),some (.loc μ.length),some (.int (w:Int)),some (.int (j:Int)),some d] (μ ++ [thC (rest T L ++ [(((ls.length + j:Nat):Int),sumL T)])])) ->
    wSs tlI Z [some (.lst ds),some (.lst (ls.map D.int)),some (.int (w:Int)),some (.loc μ.length),some (.int (size:Int)),some (.int (j:Int)),some d] (μ ++ [thC L]):=by
   intro Z d post L size j hd hL hLl hs hrt hnx
   simp only [tlI,wSs,wS,wT,wE,wEs,List.getElem?_cons_zero,List.getElem?_cons_succ]
   refine ⟨μ.length,L,size,d,rfl,a1 _,W3 _ d (hgd d hd),fun es he=>hdt es (he ▸ hd),?_⟩
   simp only [wTru,truth]
   cases hp:pick L size d with
   | none =>
    simp only [Option.isSome_none,Bool.not_false,if_true]
    exact hrt (by simp [go,hp])
   | some T =>
    have P:=Wam hL.nd hp
    have hT:T≠[]:=fun z=>by have:=P.len; rw [z] at this; simp at this; omega
    simp only [Option.isSome_some,Bool.not_true,Bool.false_eq_true,if_false]
    refine ⟨μ.length,L,T,by rw [P.eq],a1 _,hL.nd,hT,P.mem,?_⟩
    cases hsh:shB T L with
    | true =>
     simp only [wTru,truth,if_true]
     exact hrt (by simp [go,hp,hsh])
    | false =>
     simp only [wTru,truth,Bool.false_eq_true,if_false,wBlt,lenOf,Zb,Option.map_some,List.length_map,wBin]
     refine ⟨μ.length,L,T,_,by rw [P.eq],a1 _,hL.nd,P.nd,P.mem,by omega,fun p hp'=>?_,?_⟩
     ·have:=hL.lt p hp'
      simp at this
      omega
     ·rw [s1]
      have:=hnx T hp (by simp [go,hp,hsh]) hT P.mem
      simpa using this
  simp only [i_is_going]
  generalize tlI=G at step
  simp only [n_is_going,Wc,topZ,wSs,wS,wT,wE,wEs,List.map_cons,List.map_nil,List.length_cons,List.length_nil,List.cons_append,List.nil_append,List.getElem?_cons_zero,List.getElem?_cons_succ,List.replicate]
  refine ⟨w,rfl,by omega,by omega,?_⟩
  simp only [Ws,tyOf,isTy,beq_self_eq_true,Bool.true_or,wBl,Bool.not_true,Bool.false_eq_true,if_false,e0,e1,wDen,e3,List.length_map,e2,List.set_cons_succ,List.set_cons_zero,List.getElem?_cons_zero,List.getElem?_cons_succ,wBlt,lenOf,Zb,Option.map_some]
  refine ⟨ls.length,w,rfl,by omega,?_⟩
  have hf2:=fs_ge (n:=ls.length) hw
  obtain ⟨z,hz⟩:∃ z:Nat,fs (ls.length:Int) (w:Int)=(z:Int):=⟨(fs (ls.length:Int) (w:Int)).toNat,by omega⟩
  have hgo:goD ls w (.lst ds)=go w ds (L0 ls) z ((ls.length + 0:Nat):Int):=by
   unfold goD
   simp [hz]
  rw [hgo] at h
  rw [hz]
  simp only [wI,wE,Xa9,Zf,Zb,List.getElem?_cons_zero]
  refine Vi (fun es ρ μ1=>∃ (j:Nat) (post:List D) (L:List Th) (size:Nat) (a5 a6:Option D),es=Zt j post/\(∀ e∈post,e∈ds)/\LOk L ((ls.length + j:Nat):Int)/\L.length<=60/\2<=size/\go w ds (L0 ls) z ((ls.length + 0:Nat):Int)=go w post L size ((ls.length + j:Nat):Int)/\μ1=μ ++ [thC L]/\ρ=[some (.lst ds),some (.lst (ls.map D.int)),some (.int (w:Int)),some (.loc μ.length),some (.int (size:Int)),a5,a6]) ?_ ?_ _ _ _ ⟨0,ds,L0 ls,z,none,none,rfl,fun e he=>he,L0_ok ls,by simp [L0]; omega,by omega,rfl,rfl,rfl⟩
  ·rintro x es ρ μ1 N hN ⟨j,post,L,size,a5,a6,hes,hpo,hL,hLl,hs,hgo2,rfl,rfl⟩
   cases post with
   | nil=>simp [Zt] at hes
   | cons d post =>
    simp only [Zt,List.cons.injEq] at hes
    obtain ⟨rfl,rfl⟩:=hes
    refine ⟨trivial,?_⟩
    simp only [Zq,List.length_cons,List.length_nil,List.zip_cons_cons,List.zip_nil_right,List.foldl_cons,List.foldl_nil,List.set_cons_succ,List.set_cons_zero,true_and]
    refine step (post:=post) (hpo d (by simp)) hL hLl hs (fun e=>?_) fun T hp e hT hm=>?_
    ·rw [hgo2,e] at h; exact h _
    ·refine hN _ _ ⟨j + 1,post,rest T L ++ [(((ls.length + j:Nat):Int),sumL T)],w,_,_,rfl,fun e he=>hpo e (by simp [he]),?_,?_,hw,?_,rfl,rfl⟩
     ·have:=hL.step (T:=T) (v:=sumL T) (by omega)
      rw [show ((ls.length + j:Nat):Int) + 1=((ls.length + (j + 1):Nat):Int) by omega] at this
      exact this
     ·have:=Zbn hT hm
      simp; omega
     ·rw [hgo2,e]
      congr 1
  ·rintro ρ μ1 ⟨j,post,L,size,a5,a6,hes,hpo,hL,hLl,hs,hgo2,rfl,rfl⟩
   have hpost:post=[]:=by cases post with | nil=>rfl | cons=>simp [Zt] at hes
   subst hpost
   refine ⟨trivial,?_⟩
   have hlen:∀ Q:QD,wBlt "len" [.loc μ.length] (μ ++ [thC L]) Q=Q (.int (L.length:Nat)) (μ ++ [thC L]):=fun Q=>by
    simp [wBlt,lenOf,Zb,a1,thC,Xbh]
   rw [hgo2] at h
   have e9:go w [] L size ((ls.length + j:Nat):Int)=eqD (.int ((L.length:Nat):Int)) (.int 1):=by
    simp only [go,eqD]
    rw [Bool.eq_iff_iff,beq_iff_eq,beq_iff_eq]; omega
   rw [e9] at h
   have h9:=h [thC L]
   have hz9:(μ ++ [thC L])[μ.length]? = some (.dic (L.map fun p=>.inl p.1) (L.map fun p=>.int p.2)):=a1 _
   simp only [List.getElem?_cons_zero,List.getElem?_cons_succ,hz9,Option.map_none,Xbh,List.length_map,wCmp]
   exact ⟨rfl,rfl,h9⟩
 | loc m =>
  simp only [good] at hg
  obtain ⟨ks,vs,hm⟩:=Za7 hg
  exact no "dict" (by simp [tyOf,hm]) rfl rfl
 | ro _=>simp [good] at hg
 | dic _ _=>simp [good] at hg
 | fdc _ _=>simp [good] at hg
 | non=>exact no _ rfl rfl rfl
 | bl _=>exact no _ rfl rfl rfl
 | int _=>exact no _ rfl rfl rfl
 | str _=>exact no _ rfl rfl rfl
 | tup _=>exact no _ rfl rfl rfl
end DW.K42
end
section
namespace DW.K42
open PySem DW DW.K03 DW.GOI
def spL_first_take:DSp:=fun ds μ Q=>∃ (n w:Nat),ds=[.int (n:Int),.int (w:Int)]/\2<=n/\2<=w/\Q (.int (fs n w)) μ
def nL_first_take:List Str:=["many","width","take"]
noncomputable def iL_first_take:Ss:=(.cons (.set 2 (.cst (.int 2))) (.cons (.whl (.cmp .Gt (.bin .Mod (.bin .Sub (.var 0) (.var 2)) (.bin .Sub (.var 1) (.cst (.int 1)))) (.cst (.int 0))) (.cons (.set 2 (.bin .Add (.var 2) (.cst (.int 1)))) .nil)) (.cons (.ret (.var 2)) .nil)))
theorem kL_first_take:Keeps nL_first_take iL_first_take spL_first_take:=by
 rintro ds μ Q ⟨n,w,rfl,hn,hw,h⟩
 simp only [iL_first_take,nL_first_take,Wc,topZ,wSs,wS,wE,wEs,List.map_cons,List.map_nil,List.length_cons,List.length_nil,List.cons_append,List.nil_append,List.getElem?_cons_zero,List.getElem?_cons_succ,List.replicate,List.set_cons_succ,List.set_cons_zero]
 refine ⟨fun M ρ μ'=>∃ k:Nat,k + M=(n - 2) % (w - 1)/\ρ=[some (.int (n:Int)),some (.int (w:Int)),some (.int (2 + (k:Int)))]/\μ'=μ,⟨(n - 2) % (w - 1),0,by simp,by simp,rfl⟩,?_⟩
 rintro M ρ μ' ⟨k,hk,rfl,rfl⟩
 have hm:=Nat.mod_le (n - 2) (w - 1)
 have hlt:=Nat.mod_lt (n - 2) (show 0 < w - 1 by omega)
 have e1:((n:Int) - (2 + (k:Int)))=((n - 2 - k:Nat):Int):=by omega
 have e2:((w:Int) - 1)=((w - 1:Nat):Int):=by omega
 have e3:(n - 2 - k) % (w - 1)=M:=by
  have hd:=Nat.div_add_mod (n - 2) (w - 1)
  have:n - 2 - k=M + (w - 1) * ((n - 2) / (w - 1)):=by omega
  rw [this,Nat.add_mul_mod_self_left,Nat.mod_eq_of_lt (by omega)]
 have e4:((n:Int) - (2 + (k:Int))) % ((w:Int) - 1)=(M:Int):=by
  rw [e1,e2,<- Int.natCast_emod,e3]
 simp only [wT,wE,wEs,wBin,wCmp,wBl,List.getElem?_cons_zero,List.getElem?_cons_succ,e4]
 refine ⟨by omega,?_⟩
 by_cases c:0 < M
 ·have c':(0:Int) < (M:Int):=by omega
  simp only [c',decide_true,if_true]
  refine ⟨M - 1,by omega,k + 1,by omega,?_,trivial⟩
  simp; omega
 ·have c':¬ (0:Int) < (M:Int):=by omega
  simp only [c',decide_false,Bool.false_eq_true,if_false]
  have hM:M=0:=by omega
  subst hM
  have e5:fs n w=2 + (k:Int):=by
   unfold fs
   rw [show (n:Int) - 2=((n - 2:Nat):Int) by omega,e2,<- Int.natCast_emod]
   omega
  rw [e5] at h
  exact h
def nL_is_going:List Str:=["thing","lengths","width","sizes","there","at","one","stays","most"]
noncomputable def tlG3:Ss:=(.cons (.exp (.meth "append" (.var 3) (.cons (.blt "sum" (.cons (.comp false 1 false [3] (.idx (.var 1) (.var 0)) (.seq (.var 6)) .nil) .nil)) .nil))) (.cons (.set 4 (.bin .Add (.var 7) (.lst false (.cons (.bin .Sub (.blt "len" (.cons (.var 3) .nil)) (.cst (.int 1))) .nil)))) .nil))
noncomputable def tlG2:Ss:=(.cons (.ite (.or (.cmp .NotEq (.bin .Add (.blt "len" (.cons (.var 7) .nil)) (.blt "len" (.cons (.var 6) .nil))) (.blt "len" (.cons (.var 4) .nil))) (.cmp .NotEq (.comp false 1 false [3,8] (.var 0) (.seq (.var 7)) (.cons (.cmp .Lt (.idx (.var 1) (.var 0)) (.var 2)) .nil)) (.lst false .nil))) (.cons (.ret (.cst (.bl false))) .nil) .nil) tlG3)
noncomputable def tlG1:Ss:=(.cons (.set 8 (.blt "max" (.cons (.bin .Add (.comp false 1 false [3,4] (.idx (.var 1) (.var 0)) (.seq (.var 6)) (.cons (.cmp .In (.var 0) (.var 2)) .nil)) (.lst false (.cons (.cst (.int 0)) .nil))) .nil))) tlG2)
noncomputable def tlG0:Ss:=(.cons (.set 7 (.comp false 1 false [6] (.var 0) (.seq (.var 4)) (.cons (.cmp .NotIn (.var 0) (.var 1)) .nil))) tlG1)
noncomputable def tlGb:Ss:=(.cons (.ite (.or (.cmp .NotEq (.blt "len" (.cons (.var 6) .nil)) (.idx (.lst false (.cons (.var 2) (.cons (.call "_law_first_take" spL_first_take (.cons (.blt "len" (.cons (.var 4) .nil)) (.cons (.var 2) .nil))) .nil))) (.blt "int" (.cons (.cmp .Eq (.var 5) (.cst (.int 0))) .nil)))) (.cmp .NotEq (.lset (.var 6)) (.blt "len" (.cons (.var 6) .nil)))) (.cons (.ret (.cst (.bl false))) .nil) .nil) tlG0)
noncomputable def tlGa:Ss:=(.cons (.ite (.or (.cmp .Lt (.blt "len" (.cons (.var 4) .nil)) (.cst (.int 2))) (.or (.not (.isin (.var 6) "tuple")) (.not (.blt "all" (.cons (.comp false 1 false [] (.call "_law_whole" spL_whole (.cons (.var 0) .nil)) (.seq (.var 6)) .nil) .nil))))) (.cons (.ret (.cst (.bl false))) .nil) .nil) tlGb)
noncomputable def iL_is_going:Ss:=(.cons (.ite (.not (.isin (.var 0) "list")) (.cons (.ret (.cst (.bl false))) .nil) .nil) (.cons (.set 3 (.blt "mlist" (.cons (.var 1) .nil))) (.cons (.set 4 (.lrng (some false) (.blt "len" (.cons (.var 3) .nil)))) (.cons (.for_ [5,6] true (.enum (.var 0)) tlGa) (.cons (.ret (.cmp .Eq (.blt "len" (.cons (.var 4) .nil)) (.cst (.int 1)))) .nil)))))
noncomputable abbrev nD (l:List Th):List D:=l.map fun x=>D.int x.1
theorem ix_kn {μ:Mem} {n:Nat} {l:List Int} (h:μ[n]? = some (.lst (l.map D.int))) {p:Th} (hk:0<=p.1/\l[p.1.toNat]? = some p.2) {Q:QD} (q:Q (.int p.2) μ):wIdx (.loc n) (.int p.1) μ Q:=by
 obtain ⟨h0,h1⟩:=hk
 have hl:=(List.getElem?_eq_some_iff.mp h1).1
 have e:ixD l.length p.1=some p.1.toNat:=by
  unfold ixD
  have:p.1 < (l.length:Int):=by omega
  simp [h0,this]
 simpa [wIdx,Zb,h,e,h1] using q
noncomputable def isI:D->Bool
 | .int _=>true
 | _=>false
theorem all_I:∀ es:List D,es.all isI=true<->∃ ns,We es=some ns
 | []=>by simp [We]
 | d :: es=>by
  have ih:=all_I es
  rw [List.all_cons,Bool.and_eq_true,ih]
  constructor
  ·rintro ⟨h1,ns,h2⟩
   cases d with
   | int k=>exact ⟨k :: ns,by simp [We,h2]⟩
   | _=>simp [isI] at h1
  ·rintro ⟨ns,h1⟩
   cases d with
   | int k =>
    simp only [We] at h1
    cases q:We es with
    | none=>rw [q] at h1; cases h1
    | some ms=>exact ⟨rfl,ms,rfl⟩
   | _=>simp [We] at h1
theorem Zbv {α:Type} (p:α->Bool):∀ l:List α,l.length=(l.filter p).length + (l.filter fun x=>!p x).length
 | []=>by simp
 | a :: l=>by
  have:=Zbv p l
  by_cases c:p a=true
  ·simp [c]; omega
  ·simp [c]; omega
theorem Vb3 {M:List Th} (hn:(M.map (·.1)).Nodup) {ns:List Int} (hns:ns.Nodup):(M.filter fun p=>!ns.contains p.1).length + ns.length=M.length<->∀ k∈ns,k∈M.map (·.1):=by
 have h1:=Zbv (fun p:Th=>ns.contains p.1) M
 have hA:((M.filter fun p=>ns.contains p.1).map (·.1)).Nodup:=hn.sublist (List.filter_sublist.map _)
 have hin:∀ k∈(M.filter fun p=>ns.contains p.1).map (·.1),k∈ns:=fun k hk=>by
  obtain ⟨p,hp,rfl⟩:=List.mem_map.mp hk
  simpa using (List.mem_filter.mp hp).2
 have hle:=sub_len hA hin
 rw [List.length_map] at hle
 constructor
 ·intro h k hk
  apply Classical.byContradiction
  intro hk2
  have:=sub_len (m:=ns.erase k) hA fun j hj=>by
   have hjn:=hin j hj
   have:j≠k:=fun e=>hk2 (by
    subst e
    obtain ⟨p,hp,e⟩:=List.mem_map.mp hj
    exact List.mem_map.mpr ⟨p,(List.mem_filter.mp hp).1,e⟩)
   exact (List.mem_erase_of_ne this).mpr hjn
  rw [List.length_map,List.length_erase_of_mem hk] at this
  have:=List.length_pos_of_mem hk
  omega
 ·intro h
  have:=sub_len (m:=(M.filter fun p=>ns.contains p.1).map (·.1)) hns fun k hk=>by
   obtain ⟨p,hp,rfl⟩:=List.mem_map.mp (h k hk)
   exact List.mem_map.mpr ⟨p,List.mem_filter.mpr ⟨hp,by simpa using hk⟩,rfl⟩
  rw [List.length_map] at this
  omega
structure KOk (M:List Th) (kn:List Int):Prop where
 ok:LOk M (kn.length:Int)
 kn:∀ p∈M,0<=p.1/\kn[p.1.toNat]? = some p.2
 ge:∀ p∈M,0<=p.2
theorem Wci (k:Int) (ns:List Int):(ns.map D.int).any (fun d=>eqD d (.int k))=ns.contains k:=by
 induction ns with
 | nil=>rfl
 | cons a T ih =>
  have e:(a == k)=(k == a):=by rw [Bool.eq_iff_iff,beq_iff_eq,beq_iff_eq]; exact eq_comm
  simp only [List.map_cons,List.any_cons,List.contains_cons,ih,eqD,e]
theorem fl_ints (n:Nat) (T:List Int):flats n (T.map D.int)=true:=by
 induction T with
 | nil=>rfl
 | cons a T ih=>simp [flats,flat,ih]
section
variable {Z:DEnds} {r0 r1 v4 v7 v8:Option D} {μ:Mem} {p w j:Nat} {kn:List Int} {M:List Th} {ns:List Int} {b:Int}
theorem Qg3 {T S:List Th} (hc:μ[p]? = some (.lst (kn.map D.int))) (hkn:∀ t∈T,0<=t.1/\kn[t.1.toNat]? = some t.2) (hl:kn.length<=2000) (hs:S.length<=1000)
  (h:Z.nx [r0,r1,some (.int (w:Int)),some (.loc p),some (.lst (nD S ++ [.int (kn.length:Nat)])),some (.int (j:Int)),some (.tup (nD T)),some (.lst (nD S)),v8] (μ.set p (.lst ((kn ++ [sumL T]).map D.int)))) :
  wSs tlG3 Z [r0,r1,some (.int (w:Int)),some (.loc p),v4,some (.int (j:Int)),some (.tup (nD T)),some (.lst (nD S)),v8] μ:=by
 have hp:=(List.getElem?_eq_some_iff.mp hc).1
 simp only [tlG3,wSs,wS,wE,wEs,wI,wSeq,newL,List.getElem?_cons_zero,List.getElem?_cons_succ,List.map_cons,List.map_nil]
 refine ⟨by simp [isCell,hc],?_⟩
 refine Wk (g:=fun _=>True) (fun p:Th=>D.int p.1) (fun p=>D.int p.2) trivial _ _ ?_ ?_
 ·intro t ht Y N q
  exact ix_kn hc (hkn t ht) q
 ·have ej:We (T.map fun p=>D.int p.2)=some (T.map (·.2)):=Wo _ _
  have e1:Xy "append" (.loc p) [.int (T.map (·.2)).sum] μ=Wj "append" p (kn.map D.int) [.int (T.map (·.2)).sum] μ:=by funext Q; simp only [Xy,hc]
  simp only [List.nil_append,wBlt,Zb,Option.bind_some,ej,e1,Wj]
  have e2:(kn.map D.int ++ [D.int (T.map (·.2)).sum])=(kn ++ [sumL T]).map D.int:=by simp [sumL]
  rw [e2]
  have e3:(μ.set p (.lst ((kn ++ [sumL T]).map D.int)))[p]? = some (.lst ((kn ++ [sumL T]).map D.int)):=List.getElem?_set_self hp
  refine ⟨by simp only [lim,List.length_map]; omega,?_⟩
  generalize μ.set p (.lst ((kn ++ [sumL T]).map D.int))=μ2 at h e3
  simp only [lenOf,Zb,e3,Option.map_some,List.length_map,List.length_append,List.length_cons,List.length_nil,wBin]
  refine ⟨by decide,by simp only [lim]; omega,?_⟩
  have e4:((kn.length + (0 + 1):Nat):Int) - 1=(kn.length:Nat):=by omega
  simp only [e4]
  exact h
theorem Qg0 (hK:KOk M kn) (hc:μ[p]? = some (.lst (kn.map D.int))) (hns:ns.Nodup) (hl:kn.length<=2000) (hMl:M.length<=60) (hnl:ns.length < 1000)
  (hno:(∃ k∈ns,k ∉ M.map (·.1))∨((∀ k∈ns,k∈M.map (·.1))/\shB (ns.map fun k=>(k,lnOf M k)) M=true)->Z.rt (.bl false) μ)
  (hyes:(∀ k∈ns,k∈M.map (·.1))->shB (ns.map fun k=>(k,lnOf M k)) M=false->∀ v7 v8,Z.nx [r0,r1,some (.int (w:Int)),some (.loc p),some (.lst (nD (rest (ns.map fun k=>(k,lnOf M k)) M ++ [(((kn.length:Nat):Int),sumL (ns.map fun k=>(k,lnOf M k)))]))),some (.int (j:Int)),some (.tup (ns.map D.int)),v7,v8] (μ.set p (.lst ((kn ++ [sumL (ns.map fun k=>(k,lnOf M k))]).map D.int)))) :
  wSs tlG0 Z [r0,r1,some (.int (w:Int)),some (.loc p),some (.lst (nD M)),some (.int (j:Int)),some (.tup (ns.map D.int)),v7,v8] μ:=by
 have hnd:=hK.ok.nd
 have eN:nD (ns.map fun k=>(k,lnOf M k))=ns.map D.int:=by simp [nD,Function.comp_def]
 have eF:(ns.map fun k=>(k,lnOf M k)).map (·.1)=ns:=by simp [Function.comp_def]
 have eS:(M.filter fun p=>!ns.contains p.1)=rest (ns.map fun k=>(k,lnOf M k)) M:=by unfold rest; rw [eF]
 have hSl:(rest (ns.map fun k=>(k,lnOf M k)) M).length<=M.length:=List.length_filter_le _ _
 have at_:∀ k,k∈M.map (·.1)->0<=k/\kn[k.toNat]? = some (lnOf M k):=fun k hk=>by
  obtain ⟨q,hq,rfl⟩:=List.mem_map.mp hk
  rw [ln_of hnd hq]
  exact hK.kn q hq
 simp only [tlG0,wSs,wS,wE,wEs,wI,wSeq,newL,List.getElem?_cons_zero,List.getElem?_cons_succ,List.map_cons,List.map_nil]
 refine Yi (g:=fun _=>True) (fun p:Th=>D.int p.1) (fun p=>!ns.contains p.1) (fun p=>D.int p.1) trivial _ _ ?_ ?_
 ·intro t ht Y N q
  simp only [bindC,wTs,wT,wE,wCmp,List.getElem?_cons_zero,List.getElem?_cons_succ,Option.join_some,Zb,Wci,wBl]
  refine ⟨fl_ints _ _,rfl,?_⟩
  by_cases c:ns.contains t.1=true
  ·simpa [c] using q
  ·simpa [c] using q
 ·rw [List.nil_append,eS]
  simp only [tlG1,wSs,wS,wE,wEs,wI,wSeq,newL,List.getElem?_cons_zero,List.getElem?_cons_succ,List.set_cons_succ,List.set_cons_zero,List.map_cons,List.map_nil]
  refine Yi (g:=fun _=>True) D.int (fun k=>(M.map (·.1)).contains k) (fun k=>D.int (lnOf M k)) trivial _ _ ?_ ?_
  ·intro k hk Y N q
   have ea:=any_nums k M
   simp only [bindC,wTs,wT,wE,wCmp,List.getElem?_cons_zero,List.getElem?_cons_succ,Option.join_some,Zb,ea,wBl]
   refine ⟨Vaw _ _,rfl,?_⟩
   by_cases c:(M.map (·.1)).contains k=true
   ·simp only [c,if_true] at q ⊢
    exact ix_kn (p:=(k,lnOf M k)) hc (at_ k (by simpa using c)) q
   ·simp only [c,if_false] at q ⊢
    exact q
  ·refine ⟨by decide,?_⟩
   generalize hms:(ns.filter fun k=>(M.map (·.1)).contains k).map (lnOf M)=ms
   have hml:ms.length<=ns.length:=by rw [<- hms,List.length_map]; exact List.length_filter_le _ _
   have ei:We (((ns.filter fun k=>(M.map (·.1)).contains k).map fun k=>D.int (lnOf M k)) ++ [D.int 0])=some (ms ++ [0]):=by
    have:=Vo (ms ++ [0])
    rw [<- hms] at this ⊢
    simpa [Function.comp_def] using this
   have hll:((ns.filter fun k=>(M.map (·.1)).contains k).map fun k=>D.int (lnOf M k)).length=ms.length:=by rw [<- hms]; simp
   obtain ⟨i,is,e6⟩:∃ i is,ms ++ [0]=i :: is:=by cases ms with | nil=>exact ⟨0,[],rfl⟩ | cons a l=>exact ⟨a,l ++ [0],rfl⟩
   simp only [wBin,List.nil_append,List.length_cons,List.length_nil,wBlt,Zf,Zb,Option.bind_some,ei,e6,hll]
   refine ⟨by simp only [lim]; omega,?_⟩
   generalize hmost:is.foldl max i=most
   have mlt:∀ c,c < most<->∃ x∈ms ++ [0],c < x:=fun c=>by
    rw [<- hmost,Vav,e6]
    simp [List.mem_cons]
   simp only [tlG2,wSs,wS,wT,wE,wEs,wI,wSeq,newL,List.getElem?_cons_zero,List.getElem?_cons_succ,List.set_cons_succ,List.set_cons_zero,List.map_cons,List.map_nil,wBlt,lenOf,Zb,Option.map_some,List.length_map,wBin,wCmp,wBl]
   refine ⟨rfl,rfl,?_⟩
   have hcl:=Vb3 hnd hns
   rw [eS] at hcl
   by_cases ca:∀ k∈ns,k∈M.map (·.1)
   ·have hsum:=hcl.mpr ca
    have e0:eqD (.int ((((rest (ns.map fun k=>(k,lnOf M k)) M).length:Nat):Int) + ((ns.length:Nat):Int))) (.int ((M.length:Nat):Int))=true:=by simp only [eqD,beq_iff_eq]; omega
    simp only [e0,Bool.not_true,Bool.false_eq_true,if_false]
    have hmsn:ms=ns.map (lnOf M):=by
     rw [<- hms,List.filter_eq_self.mpr fun k hk=>by simpa using ca k hk]
    refine Yi (g:=fun _=>True) (fun p:Th=>D.int p.1) (fun p=>decide (p.2 < most)) (fun p=>D.int p.1) trivial _ _ ?_ ?_
    ·intro t ht Y N q
     simp only [bindC,wTs,wT,wE,wCmp,List.getElem?_cons_zero,List.getElem?_cons_succ,Option.join_some,wBl]
     refine ix_kn hc (hK.kn t (List.mem_filter.mp ht).1) ?_
     simp only [ltD]
     exact q
    ·rw [List.nil_append]
     generalize hF:(rest (ns.map fun k=>(k,lnOf M k)) M).filter (fun p=>decide (p.2 < most))=F
     have hsh:shB (ns.map fun k=>(k,lnOf M k)) M = !F.isEmpty:=by
      have key:shB (ns.map fun k=>(k,lnOf M k)) M=true<->F≠[]:=by
       unfold shB
       rw [List.any_eq_true,<- hF]
       constructor
       ·rintro ⟨r,hr,h2⟩
        obtain ⟨t,ht,hlt⟩:=List.any_eq_true.mp h2
        obtain ⟨k,hk,rfl⟩:=List.mem_map.mp ht
        have hlt:=of_decide_eq_true hlt
        refine List.ne_nil_of_mem (a:=r) (List.mem_filter.mpr ⟨hr,decide_eq_true ((mlt _).mpr ⟨lnOf M k,?_,hlt⟩)⟩)
        rw [hmsn]
        exact List.mem_append_left _ (List.mem_map.mpr ⟨k,hk,rfl⟩)
       ·intro hne
        obtain ⟨r,hr⟩:=List.exists_mem_of_ne_nil _ hne
        obtain ⟨hr1,hr2⟩:=List.mem_filter.mp hr
        obtain ⟨x,hx,hlt⟩:=(mlt _).mp (of_decide_eq_true hr2)
        refine ⟨r,hr1,?_⟩
        rcases List.mem_append.mp hx with hx | hx
        ·rw [hmsn] at hx
         obtain ⟨k,hk,rfl⟩:=List.mem_map.mp hx
         exact List.any_eq_true.mpr ⟨(k,lnOf M k),List.mem_map.mpr ⟨k,hk,rfl⟩,decide_eq_true hlt⟩
        ·simp at hx
         subst hx
         have:=hK.ge r (List.mem_filter.mp hr1).1
         omega
      cases hFe:F with
      | nil=>rw [hFe] at key; simp at key; simp [key]
      | cons a l=>rw [hFe] at key; simp at key; simp [key]
     have ef:flat 60 (.lst (F.map fun p=>D.int p.1))=true:=by simp only [flat]; exact Vaw _ _
     have en:eqD (.lst (F.map fun p=>D.int p.1)) (.lst [])=F.isEmpty:=by cases F with | nil=>rfl | cons=>simp [eqD,eqDs]
     refine ⟨by decide,ef,rfl,?_⟩
     rw [en]
     by_cases cf:F.isEmpty=true
     ·simp only [cf,Bool.not_true,Bool.false_eq_true,if_false]
      rw [cf] at hsh
      have:=Qg3 (Z:=Z) (r0:=r0) (r1:=r1) (w:=w) (j:=j) (v4:=some (.lst (nD M))) (v8:=some (.int most)) (T:=ns.map fun k=>(k,lnOf M k)) (S:=rest (ns.map fun k=>(k,lnOf M k)) M) hc (fun t ht=>by
       obtain ⟨k,hk,rfl⟩:=List.mem_map.mp ht
       exact at_ k (ca k hk)) hl (by omega) (by
       have h9:=hyes ca hsh (some (.lst (nD (rest (ns.map fun k=>(k,lnOf M k)) M)))) (some (.int most))
       rw [eN]
       simpa [nD] using h9)
      rw [eN] at this
      exact this
     ·have cf':F.isEmpty=false:=by simpa using cf
      simp only [cf',Bool.not_false,if_true]
      rw [cf'] at hsh
      exact hno (.inr ⟨ca,hsh⟩)
   ·have hsum:¬ (rest (ns.map fun k=>(k,lnOf M k)) M).length + ns.length=M.length:=fun z=>ca (hcl.mp z)
    have e0:eqD (.int ((((rest (ns.map fun k=>(k,lnOf M k)) M).length:Nat):Int) + ((ns.length:Nat):Int))) (.int ((M.length:Nat):Int))=false:=by
     simp only [eqD,beq_eq_false_iff_ne]; omega
    simp only [e0,Bool.not_false,if_true]
    refine hno (.inl ?_)
    apply Classical.byContradiction
    intro z
    exact ca fun k hk=>Classical.byContradiction fun z2=>z ⟨k,hk,z2⟩
theorem Qgb {k size:Nat} (hM2:2<=M.length) (hw:2<=w) (hT:((size:Nat):Int)=if k=0 then fs (M.length:Nat) (w:Nat) else (w:Int)) (ht:ns.length < 1000)
  (hno:¬ (ns.length=size/\ns.Nodup)->Z.rt (.bl false) μ)
  (h:ns.length=size->ns.Nodup->wSs tlG0 Z [r0,r1,some (.int (w:Int)),some (.loc p),some (.lst (nD M)),some (.int (k:Int)),some (.tup (ns.map D.int)),v7,v8] μ) :
  wSs tlGb Z [r0,r1,some (.int (w:Int)),some (.loc p),some (.lst (nD M)),some (.int (k:Int)),some (.tup (ns.map D.int)),v7,v8] μ:=by
 simp only [tlGb]
 generalize tlG0=G at h
 have e5:We (ns.map D.int)=some ns:=Vo _
 simp only [wSs,wS,wT,wE,wEs,newL,List.getElem?_cons_zero,List.getElem?_cons_succ,wBlt,lenOf,Zb,Option.map_some,List.length_map,List.length_cons,List.length_nil]
 refine ⟨M.length,w,rfl,hM2,hw,by decide,rfl,rfl,?_⟩
 have hy:∀ (Q:QD),Q (.int ((size:Nat):Int)) μ->wIdx (D.lst [.int (w:Int),.int (fs (M.length:Nat) (w:Nat))]) (.int (if eqD (.int (k:Int)) (.int 0)=true then 1 else 0)) μ Q:=by
  intro Q q
  by_cases e:k=0
  ·subst e
   rw [if_pos rfl] at hT
   rw [<- hT]
   simpa [eqD,wIdx,Zb,ixD] using q
  ·have e4:eqD (.int (k:Int)) (.int 0)=false:=by simp [eqD,e]
   rw [if_neg e] at hT
   rw [e4,<- hT]
   simpa [wIdx,Zb,ixD] using q
 refine hy _ ?_
 simp only [wCmp,wBl]
 refine ⟨rfl,rfl,?_⟩
 by_cases c:ns.length=size
 ·have eq1:eqD (.int ((ns.length:Nat):Int)) (.int ((size:Nat):Int))=true:=by simp [eqD,c]
  simp only [eq1,Bool.not_true,Bool.false_eq_true,if_false,Zbh,Zb,Option.bind_some,e5,List.length_map]
  refine ⟨ht,rfl,rfl,?_⟩
  by_cases cn:ns.Nodup
  ·have eq2:eqD (.int ((Yt ns:Nat):Int)) (.int ((ns.length:Nat):Int))=true:=by simp [eqD,(V3 ns).mpr cn]
   simp only [eq2,Bool.not_true,Bool.false_eq_true,if_false]
   exact h c cn
  ·have eq2:eqD (.int ((Yt ns:Nat):Int)) (.int ((ns.length:Nat):Int))=false:=by
    have:Yt ns≠ns.length:=fun z=>cn ((V3 ns).mp z)
    simp only [eqD,beq_eq_false_iff_ne]; omega
   simp only [eq2,Bool.not_false,if_true]
   exact hno fun z=>cn z.2
 ·have eq1:eqD (.int ((ns.length:Nat):Int)) (.int ((size:Nat):Int))=false:=by simp only [eqD,beq_eq_false_iff_ne]; omega
  simp only [eq1,Bool.not_false,if_true]
  exact hno fun z=>c z.1
theorem Qga {d:D} {r5:Option D} (hg:good μ d=true)
  (hno:(M.length < 2∨∀ ns:List Int,d≠.tup (ns.map D.int))->Z.rt (.bl false) μ)
  (h:2<=M.length->∀ ns:List Int,d = .tup (ns.map D.int)->wSs tlGb Z [r0,r1,some (.int (w:Int)),some (.loc p),some (.lst (nD M)),r5,some (.tup (ns.map D.int)),v7,v8] μ) :
  wSs tlGa Z [r0,r1,some (.int (w:Int)),some (.loc p),some (.lst (nD M)),r5,some d,v7,v8] μ:=by
 simp only [tlGa]
 generalize tlGb=G at h
 by_cases cM:M.length < 2
 ·have c1:ltD (D.int (M.length:Nat)) (D.int 2)=some true:=by simp only [ltD,Option.some.injEq,decide_eq_true_iff]; omega
  simp only [wSs,wS,wT,wE,wEs,List.getElem?_cons_zero,List.getElem?_cons_succ,wBlt,lenOf,Zb,Option.map_some,List.length_map,wCmp,c1,wBl,if_true]
  exact hno (.inl cM)
 ·have c1:ltD (D.int (M.length:Nat)) (D.int 2)=some false:=by simp only [ltD,Option.some.injEq,decide_eq_false_iff_not]; omega
  have hno:=fun z=>hno (.inr z)
  have h:=h (by omega)
  have no:∀ t,tyOf μ d=some t->(t == "tuple")=false->(∀ ns:List Int,d≠.tup (ns.map D.int))->wSs (.cons (.ite (.or (.cmp .Lt (.blt "len" (.cons (.var 4) .nil)) (.cst (.int 2))) (.or (.not (.isin (.var 6) "tuple")) (.not (.blt "all" (.cons (.comp false 1 false [] (.call "_law_whole" spL_whole (.cons (.var 0) .nil)) (.seq (.var 6)) .nil) .nil))))) (.cons (.ret (.cst (.bl false))) .nil) .nil) G) Z [r0,r1,some (.int (w:Int)),some (.loc p),some (.lst (nD M)),r5,some d,v7,v8] μ:=by
   intro t h1 h2 h3
   have h4:(t == "bool" && ("tuple" : String) == "int")=false:=by
    have:(("tuple" : String) == "int")=false:=rfl
    rw [this,Bool.and_false]
   simp only [wSs,wS,wT,wE,wEs,List.getElem?_cons_zero,List.getElem?_cons_succ,wBlt,lenOf,Zb,Option.map_some,List.length_map,wCmp,c1,wBl,Bool.false_eq_true,if_false,Ws,h1,isTy,h2,h4,Bool.or_self,Bool.not_false,if_true]
   exact hno h3
  cases d with
  | tup es =>
   have hge:∀ e∈es,good μ e=true:=Yp (by simpa [good] using hg)
   have ct:(!(isTy "tuple" "tuple"))=false:=rfl
   simp only [wSs,wS,wT,wE,wEs,wI,wSeq,newL,List.getElem?_cons_zero,List.getElem?_cons_succ,List.map_nil,wBlt,lenOf,Zb,Option.map_some,List.length_map,wCmp,c1,wBl,Bool.false_eq_true,if_false,Ws,tyOf,ct]
   have ei:es=es.map fun d=>d:=by simp
   conv=>arg 5; rw [ei]
   refine Wk (g:=fun _=>True) (fun d:D=>d) (fun d=>D.bl (isI d)) trivial _ _ ?_ ?_
   ·intro e he Y N q
    have hge:=hge e he
    cases e with
    | loc m =>
     simp only [good] at hge
     simp only [bindC,wTs,List.getElem?_cons_zero,List.getElem?_cons_succ,if_true,spL_whole,wBl,Bool.false_eq_true,if_false]
     exact ⟨hge,q⟩
    | ro _=>simp [good] at hge
    | fdc _ _=>simp [good] at hge
    | _ =>
     simp only [bindC,wTs,List.getElem?_cons_zero,List.getElem?_cons_succ,if_true,spL_whole,wBl,Bool.false_eq_true,if_false]
     exact q
   ·simp only [List.nil_append,Zf,Zb,Option.bind_some,Waj,wTru,truth]
    by_cases ca:es.all isI=true
    ·simp only [ca,Bool.not_true,Bool.false_eq_true,if_false]
     obtain ⟨ns,hns⟩:=(all_I es).mp ca
     have:=ints_map hns
     subst this
     exact h ns rfl
    ·have ca':es.all isI=false:=by simpa using ca
     simp only [ca',Bool.not_false,if_true]
     refine hno fun ns e=>ca ?_
     cases e
     exact (all_I _).mpr ⟨ns,Vo ns⟩
  | loc m =>
   simp only [good] at hg
   obtain ⟨ks,vs,hm⟩:=Za7 hg
   exact no "dict" (by simp [tyOf,hm]) rfl (fun ns e=>by cases e)
  | ro _=>simp [good] at hg
  | dic _ _=>simp [good] at hg
  | fdc _ _=>simp [good] at hg
  | non=>exact no _ rfl rfl (fun ns e=>by cases e)
  | bl _=>exact no _ rfl rfl (fun ns e=>by cases e)
  | int _=>exact no _ rfl rfl (fun ns e=>by cases e)
  | str _=>exact no _ rfl rfl (fun ns e=>by cases e)
  | lst _=>exact no _ rfl rfl (fun ns e=>by cases e)
theorem gall {d:D} {post:List D} {size:Nat} (hK:KOk M kn) (hc:μ[p]? = some (.lst (kn.map D.int))) (hw:2<=w) (hs2:2<=size) (hT:((size:Nat):Int)=if j=0 then fs (M.length:Nat) (w:Nat) else (w:Int)) (hl:kn.length<=2000) (hMl:M.length<=60) (hg:good μ d=true) (hdl:∀ es,d = .tup es->es.length < 1000)
  (hno:go w (d :: post) M size (kn.length:Int)=false->Z.rt (.bl false) μ)
  (hyes:∀ T,pick M size d=some T->T≠[]->(∀ t∈T,t∈M)->go w (d :: post) M size (kn.length:Int)=go w post (rest T M ++ [(((kn.length:Nat):Int),sumL T)]) w (kn.length + 1:Int)->∀ v7 v8,Z.nx [r0,r1,some (.int (w:Int)),some (.loc p),some (.lst (nD (rest T M ++ [(((kn.length:Nat):Int),sumL T)]))),some (.int (j:Int)),some d,v7,v8] (μ.set p (.lst ((kn ++ [sumL T]).map D.int)))) :
  wSs tlGa Z [r0,r1,some (.int (w:Int)),some (.loc p),some (.lst (nD M)),some (.int (j:Int)),some d,v7,v8] μ:=by
 refine Qga hg ?_ ?_
 ·rintro (h | h)
  ·exact hno (by simp [go,Wbb (d:=d) (show M.length < size by omega)])
  ·have:pick M size d=none:=by
    unfold pick
    split
    ·split
     ·rename_i es ns hns
      have:=ints_map hns
      exact absurd (by rw [this]) (h ns)
     ·rfl
    ·rfl
   exact hno (by simp [go,this])
 ·intro hM2 ns hd
  have hp:pick M size d=if ns.length=size/\ns.Nodup/\∀ k∈ns,k∈M.map (·.1) then some (ns.map fun k=>(k,lnOf M k)) else none:=by
   rw [hd]
   unfold pick
   simp only [Vo]
  have hnl:ns.length < 1000:=by have:=hdl _ hd; simpa using this
  refine Qgb hM2 hw hT hnl ?_ ?_
  ·intro h
   refine hno ?_
   rw [if_neg fun z=>h ⟨z.1,z.2.1⟩] at hp
   simp [go,hp]
  ·intro h1 h2
   refine Qg0 hK hc h2 hl hMl hnl ?_ ?_
   ·rintro (⟨k,hk,hk2⟩ | ⟨ca,hsh⟩)
    ·rw [if_neg fun z=>hk2 (z.2.2 k hk)] at hp
     exact hno (by simp [go,hp])
    ·rw [if_pos ⟨h1,h2,ca⟩] at hp
     exact hno (by simp [go,hp,hsh])
   ·intro ca hsh v7 v8
    rw [if_pos ⟨h1,h2,ca⟩] at hp
    have P:=Wam hK.ok.nd hp
    subst hd
    refine hyes _ hp (fun z=>?_) P.mem (by simp [go,hp,hsh]) v7 v8
    have:=P.len; rw [z] at this; simp at this; omega
end
def spL_is_going:DSp:=fun ds μ Q=>∃ (d:D) (ls:List Int) (w:Nat),ds=[d,.lst (ls.map D.int),.int (w:Int)]/\good μ d=true/\small d/\1<=ls.length/\ls.length<=60/\2<=w/\w<=8/\(∀ x∈ls,0<=x)/\∀ ν,Q (.bl (goD ls w d)) (μ ++ ν)
theorem KOk.step {M T:List Th} {kn:List Int} (h:KOk M kn) (hm:∀ t∈T,t∈M):KOk (rest T M ++ [(((kn.length:Nat):Int),sumL T)]) (kn ++ [sumL T]):=by
 have h1:=h.ok.step (T:=T) (v:=sumL T) (by omega)
 refine ⟨by simpa using h1,fun p hp=>?_,fun p hp=>?_⟩
 ·rcases List.mem_append.mp hp with hp | hp
  ·obtain ⟨h2,h3⟩:=h.kn p (List.mem_filter.mp hp).1
   have hl:=(List.getElem?_eq_some_iff.mp h3).1
   exact ⟨h2,by rw [List.getElem?_append_left hl]; exact h3⟩
  ·simp at hp; subst hp; simp
 ·rcases List.mem_append.mp hp with hp | hp
  ·exact h.ge p (List.mem_filter.mp hp).1
  ·simp at hp; subst hp
   have:∀ l:List Th,(∀ t∈l,0<=t.2)->0<=sumL l:=fun l=>by
    induction l with
    | nil=>intro _; simp [sumL]
    | cons a l ih =>
     intro hh
     have h5:=ih fun t ht=>hh t (by simp [ht])
     have h6:=hh a (by simp)
     simp only [sumL,List.map_cons,List.sum_cons] at h5 ⊢
     omega
   exact this T fun t ht=>h.ge t (hm t ht)
theorem KOk.start {ls:List Int} (h0:∀ x∈ls,0<=x):KOk (L0 ls) ls:=by
 refine ⟨L0_ok ls,fun p hp=>?_,fun p hp=>?_⟩
 ·obtain ⟨i,hi,rfl⟩:=List.mem_map.mp hp
  have hi:=List.mem_range.mp hi
  simp [hi]
 ·obtain ⟨i,hi,rfl⟩:=List.mem_map.mp hp
  have hi:=List.mem_range.mp hi
  simp [hi]
  exact h0 _ (List.getElem_mem _)
theorem kL_is_going:Keeps nL_is_going iL_is_going spL_is_going:=by
 rintro ds μ Q ⟨d,ls,w,rfl,hg,hsm,hn,hn2,hw,hw2,h0,h⟩
 have no:∀ t,tyOf μ d=some t->(t == "list")=false->goD ls w d=false->wSs iL_is_going (topZ Q) (Wc nL_is_going [d,.lst (ls.map D.int),.int (w:Int)]) μ:=by
  intro t h1 h2 h3
  rw [h3] at h
  have h4:(t == "bool" && ("list" : String) == "int")=false:=by
   have:(("list" : String) == "int")=false:=rfl
   rw [this,Bool.and_false]
  simp only [iL_is_going,nL_is_going,Wc,topZ,wSs,wS,wT,wE,wEs,List.map_cons,List.map_nil,List.length_cons,List.length_nil,List.cons_append,List.nil_append,List.getElem?_cons_zero,List.getElem?_cons_succ]
  simp only [Ws,h1,isTy,h2,h4,Bool.or_self,wBl,Bool.not_false,if_true]
  have:=h []
  rwa [List.append_nil] at this
 cases d with
 | lst ds =>
  obtain ⟨hdl,hdt⟩:=hsm ds rfl
  have hgd:∀ e∈ds,good μ e=true:=Yp (by simpa [good] using hg)
  have hc0:∀ c,(μ ++ [c])[μ.length]? = some c:=fun c=>by simp
  have s1:∀ (c1 c:Cell),(μ ++ [c1]).set μ.length c=μ ++ [c]:=fun c1 c=>by simp
  have step:∀ {Z:DEnds} {d:D} {post:List D} {M:List Th} {kn:List Int} {size j:Nat} {v7 v8:Option D},d∈ds->KOk M kn->kn.length<=2000->M.length<=60->2<=size->(((size:Nat):Int)=if j=0 then fs (M.length:Nat) (w:Nat) else (w:Int))->(go w (d :: post) M size (kn.length:Int)=false->Z.rt (.bl false) (μ ++ [.lst (kn.map D.int)])) ->
    (∀ T,pick M size d=some T->T≠[]->(∀ t∈T,t∈M)->go w (d :: post) M size (kn.length:Int)=go w post (rest T M ++ [(((kn.length:Nat):Int),sumL T)]) w (kn.length + 1:Int)->∀ v7 v8,Z.nx [some (.lst ds),some (.lst (ls.map D.int)),some (.int (w:Int)),some (.loc μ.length),some (.lst (nD (rest T M ++ [(((kn.length:Nat):Int),sumL T)]))),some (.int (j:Int)),some d,v7,v8] (μ ++ [.lst ((kn ++ [sumL T]).map D.int)])) ->
    wSs tlGa Z [some (.lst ds),some (.lst (ls.map D.int)),some (.int (w:Int)),some (.loc μ.length),some (.lst (nD M)),some (.int (j:Int)),some d,v7,v8] (μ ++ [.lst (kn.map D.int)]):=by
   intro Z d post M kn size j v7 v8 hd hK hl hMl hs hT hrt hnx
   refine gall (post:=post) hK (hc0 _) hw hs hT hl hMl (W3 _ d (hgd d hd)) (fun es he=>hdt es (he ▸ hd)) hrt ?_
   intro T hp hne hm hgo v7 v8
   rw [s1]
   exact hnx T hp hne hm hgo v7 v8
  simp only [iL_is_going]
  generalize tlGa=G at step
  simp only [nL_is_going,Wc,topZ,wSs,wS,wT,wE,wEs,wI,Ws,tyOf,isTy,wBl,wBlt,Zb,newL,newR,lenOf,Option.map_some,List.map_cons,List.map_nil,List.length_cons,List.length_nil,List.cons_append,List.nil_append,List.getElem?_cons_zero,List.getElem?_cons_succ,List.replicate,List.set_cons_succ,List.set_cons_zero,List.length_map,beq_self_eq_true,Bool.true_or,Bool.not_true,Bool.false_eq_true,if_false,hc0,wInt]
  refine ⟨⟨by omega,by simp only [lim]; omega⟩,?_⟩
  have e0:Zg 0 ((ls.length:Int)).toNat=nD (L0 ls):=by simp [Zg,L0,nD]
  have hf2:=fs_ge (n:=ls.length) hw
  obtain ⟨z,hz⟩:∃ z:Nat,fs (ls.length:Int) (w:Int)=(z:Int):=⟨(fs (ls.length:Int) (w:Int)).toNat,by omega⟩
  have hgo:goD ls w (.lst ds)=go w ds (L0 ls) z (ls.length:Int):=by
   unfold goD
   simp [hz]
  rw [hgo] at h
  unfold Xa9
  simp only [Zf,Zb]
  rw [e0]
  refine Vi (fun es ρ μ1=>∃ (j:Nat) (post:List D) (M:List Th) (kn:List Int) (size:Nat) (a5 a6 a7 a8:Option D),es=Zt j post/\(∀ e∈post,e∈ds)/\KOk M kn/\kn.length + post.length<=1100/\M.length<=60/\2<=size/\(((size:Nat):Int)=if j=0 then fs (M.length:Nat) (w:Nat) else (w:Int))/\go w ds (L0 ls) z (ls.length:Int)=go w post M size (kn.length:Int)/\μ1=μ ++ [.lst (kn.map D.int)]/\ρ=[some (.lst ds),some (.lst (ls.map D.int)),some (.int (w:Int)),some (.loc μ.length),some (.lst (nD M)),a5,a6,a7,a8]) ?_ ?_ _ _ _ ⟨0,ds,L0 ls,ls,z,none,none,none,none,rfl,fun e he=>he,.start h0,by omega,by simp [L0]; omega,by omega,by simp [L0,hz],rfl,rfl,rfl⟩
  ·rintro x es ρ μ1 N hN ⟨j,post,M,kn,size,a5,a6,a7,a8,hes,hpo,hK,hkl,hMl,hs,hT,hgo2,rfl,rfl⟩
   cases post with
   | nil=>simp [Zt] at hes
   | cons d post =>
    simp only [Zt,List.cons.injEq] at hes
    obtain ⟨rfl,rfl⟩:=hes
    refine ⟨trivial,?_⟩
    simp only [List.length_cons] at hkl
    simp only [Zq,List.length_cons,List.length_nil,List.zip_cons_cons,List.zip_nil_right,List.foldl_cons,List.foldl_nil,List.set_cons_succ,List.set_cons_zero,true_and]
    refine step (post:=post) (hpo d (by simp)) hK (by omega) hMl hs hT (fun e=>?_) fun T hp hne hm e v7 v8=>?_
    ·rw [hgo2,e] at h; exact h _
    ·refine hN _ _ ⟨j + 1,post,_,kn ++ [sumL T],w,_,_,_,_,rfl,fun e he=>hpo e (by simp [he]),hK.step hm,by simp; omega,?_,hw,by simp,?_,rfl,rfl⟩
     ·have:=Zbn hne hm
      simp; omega
     ·rw [hgo2,e]
      congr 1
      simp
  ·rintro ρ μ1 ⟨j,post,M,kn,size,a5,a6,a7,a8,hes,hpo,hK,hkl,hMl,hs,hT,hgo2,rfl,rfl⟩
   have hpost:post=[]:=by cases post with | nil=>rfl | cons=>simp [Zt] at hes
   subst hpost
   refine ⟨trivial,?_⟩
   rw [hgo2] at h
   have e9:go w [] M size (kn.length:Int)=eqD (.int ((M.length:Nat):Int)) (.int 1):=by
    simp only [go,eqD]
    rw [Bool.eq_iff_iff,beq_iff_eq,beq_iff_eq]; omega
   rw [e9] at h
   have h9:=h [.lst (kn.map D.int)]
   simp only [List.getElem?_cons_zero,List.getElem?_cons_succ,wBlt,lenOf,Zb,Option.map_some,List.length_map,wCmp]
   exact ⟨rfl,rfl,h9⟩
 | loc m =>
  simp only [good] at hg
  obtain ⟨ks,vs,hm⟩:=Za7 hg
  exact no "dict" (by simp [tyOf,hm]) rfl rfl
 | ro _=>simp [good] at hg
 | dic _ _=>simp [good] at hg
 | fdc _ _=>simp [good] at hg
 | non=>exact no _ rfl rfl rfl
 | bl _=>exact no _ rfl rfl rfl
 | int _=>exact no _ rfl rfl rfl
 | str _=>exact no _ rfl rfl rfl
 | tup _=>exact no _ rfl rfl rfl
end DW.K42
end
section
namespace DW.K42
open PySem DW DW.K03 DW.GOI
open DW.TRC (natD Dr)
structure Upm (n:Nat) (μ μ':Mem):Prop where
 bx:Yh μ' n
 le:μ.length<=μ'.length
 get:∀ i c,i≠n->μ[i]? = some c->μ'[i]? = some c
theorem Yc {μ:Mem} {i:Nat} {c:Cell} (h:μ[i]? = some c):i < μ.length:=(List.getElem?_eq_some_iff.mp h).1
theorem Wb1 {μ:Mem} {n:Nat} (h:Yh μ n):n < μ.length:=by obtain ⟨b,q⟩:=h; exact Yc q
theorem Upm.rfl {n:Nat} {μ:Mem} (h:Yh μ n):Upm n μ μ:=⟨h,Nat.le_refl _,fun _ _ _ h=>h⟩
theorem Upm.apd {n:Nat} {μ μ':Mem} (h:Upm n μ μ') (ν:Mem):Upm n μ (μ' ++ ν):=by
 refine ⟨?_,by have:=h.le; simp; omega,fun i c hi e=>?_⟩
 ·obtain ⟨b,q⟩:=h.bx
  exact ⟨b,by rw [List.getElem?_append_left (Yc q)]; exact q⟩
 ·have:=h.get i c hi e
  rw [List.getElem?_append_left (Yc this)]; exact this
theorem Upm.box {n:Nat} {μ μ':Mem} (h:Upm n μ μ') (b:Int):Upm n μ (DW.bx μ' n b):=by
 refine ⟨Vh h.bx,by have:=h.le; simp [DW.bx]; omega,fun i c hi e=>?_⟩
 unfold DW.bx
 rw [List.getElem?_set_ne (Ne.symm hi)]
 exact h.get i c hi e
theorem Upm.set {n k:Nat} {μ μ':Mem} (h:Upm n μ μ') (hk:μ.length<=k) (hn:n < μ.length) (c:Cell):Upm n μ (μ'.set k c):=by
 refine ⟨?_,by have:=h.le; simp; omega,fun i x hi e=>?_⟩
 ·obtain ⟨b,q⟩:=h.bx
  exact ⟨b,by rw [List.getElem?_set_ne (by omega)]; exact q⟩
 ·have:=Yc e
  rw [List.getElem?_set_ne (by omega)]
  exact h.get i x hi e
theorem Upm.hasT {n:Nat} {μ μ':Mem} (h:Upm n μ μ') (hb:Yh μ n) (hT:hasT μ):hasT μ':=by
 obtain ⟨i,hi⟩:=hT
 refine ⟨i,h.get i _ ?_ hi⟩
 rintro e
 subst e
 obtain ⟨b,q⟩:=hb
 rw [q] at hi
 cases hi
theorem Ym {μ:Mem} {n k:Nat} {b:Int} {c:Cell} (hk:k≠n) (h:μ[k]? = some c):(bx μ n b)[k]? = some c:=by
 unfold bx; rw [List.getElem?_set_ne (Ne.symm hk)]; exact h
noncomputable def tpN (f:List Nat):D:=.tup (f.map natD)
def spL_drawn:DSp:=fun ds μ Q=>∃ (n:Nat) (ls:List Int) (w:Nat),ds=[.loc n,.lst (ls.map D.int),.int (w:Int)]/\Yh μ n/\hasT μ/\1<=ls.length/\ls.length<=7/\2<=w/\w<=8 /\
 ∀ (fs:List (List Nat)) μ',fs.length<=7->(∀ f∈fs,f.length<=7/\∀ k∈f,k < 64)->Upm n μ μ'->Q (.lst (fs.map tpN)) μ'
def nL_drawn:List Str:=["box","lengths","width","sizes","there","found","take","some","taken"]
noncomputable def tlD3:Ss:=(.cons (.exp (.meth "append" (.var 5) (.cons (.blt "tuple" (.cons (.var 8) .nil)) .nil))) (.cons (.exp (.meth "append" (.var 3) (.cons (.blt "sum" (.cons (.comp false 1 false [3] (.idx (.var 1) (.var 0)) (.seq (.var 8)) .nil) .nil)) .nil))) (.cons (.set 4 (.bin .Add (.slc false (.var 4) (.cons (.var 6) .nil) .nil) (.lst false (.cons (.bin .Sub (.blt "len" (.cons (.var 3) .nil)) (.cst (.int 1))) .nil)))) .nil)))
noncomputable def tlD2:Ss:=(.cons (.set 8 (.lst true .nil)) (.cons (.whl (.cmpT true (.var 7) (.lst false .nil)) (.cons (.exp (.meth "append" (.var 8) (.cons (.meth "pop" (.var 7) (.cons (.call "_law_take" spL_take (.cons (.var 0) (.cons (.blt "len" (.cons (.var 7) .nil)) .nil))) .nil)) .nil))) .nil)) tlD3))
noncomputable def tlD1:Ss:=(.cons (.set 4 (.bltD "ksort" (.var 4) (.tup (.cons (.var 3) (.cons (.var 5) .nil))))) (.cons (.set 7 (.slc true (.var 4) .nil (.cons (.var 6) .nil))) tlD2))
noncomputable def tlD0:Ss:=(.cons (.set 6 (.idx (.lst false (.cons (.var 2) (.cons (.call "_law_first_take" spL_first_take (.cons (.blt "len" (.cons (.var 4) .nil)) (.cons (.var 2) .nil))) .nil))) (.blt "int" (.cons (.cmpT false (.var 5) (.lst false .nil)) .nil)))) tlD1)
noncomputable def iL_drawn:Ss:=(.cons (.set 3 (.blt "mlist" (.cons (.var 1) .nil))) (.cons (.set 4 (.lrng (some false) (.blt "len" (.cons (.var 3) .nil)))) (.cons (.set 5 (.lst true .nil)) (.cons (.whl (.cmp .Gt (.blt "len" (.cons (.var 4) .nil)) (.cst (.int 1))) tlD0) (.cons (.ret (.frz (.var 5))) .nil)))))
theorem Ybq (l:List Nat):l.map natD=(l.map fun (k:Nat)=>(k:Int)).map D.int:=by simp [natD,Function.comp_def]
theorem Zcf (l:List Nat):We (l.map natD)=some (l.map fun (k:Nat)=>(k:Int)):=by rw [Ybq]; exact Vo _
section
variable {Z:DEnds} {μ0 μ:Mem} {n s f p q w:Nat} {r1:Option D} {sz:List Int} {ts T:List Nat} {fs:List (List Nat)} {take:Nat}
structure Dw (μ0:Mem) (n s f:Nat) (sz:List Int) (fs:List (List Nat)) (μ:Mem):Prop where
 up:Upm n μ0 μ
 bn:n < μ0.length
 bs:μ0.length<=s
 bf:μ0.length<=f
 ne:s≠f
 sz:μ[s]? = some (.lst (sz.map D.int))
 fs:μ[f]? = some (.lst (fs.map tpN))
theorem Dw.apd (h:Dw μ0 n s f sz fs μ) (ν:Mem):Dw μ0 n s f sz fs (μ ++ ν) :=
 ⟨h.up.apd ν,h.bn,h.bs,h.bf,h.ne,by rw [List.getElem?_append_left (Yc h.sz)]; exact h.sz,by rw [List.getElem?_append_left (Yc h.fs)]; exact h.fs⟩
theorem Dw.box (h:Dw μ0 n s f sz fs μ) (b:Int):Dw μ0 n s f sz fs (bx μ n b):=by
 have:=h.bn; have:=h.bs; have:=h.bf
 exact ⟨h.up.box b,h.bn,h.bs,h.bf,h.ne,Ym (by omega) h.sz,Ym (by omega) h.fs⟩
theorem Dw.other (h:Dw μ0 n s f sz fs μ) {k:Nat} (hk:μ0.length<=k) (h1:k≠s) (h2:k≠f) (c:Cell):Dw μ0 n s f sz fs (μ.set k c) :=
 ⟨h.up.set hk h.bn c,h.bn,h.bs,h.bf,h.ne,by rw [List.getElem?_set_ne h1]; exact h.sz,by rw [List.getElem?_set_ne h2]; exact h.fs⟩
theorem Dw.setF (h:Dw μ0 n s f sz fs μ) (fs':List (List Nat)):Dw μ0 n s f sz fs' (μ.set f (.lst (fs'.map tpN))) :=
 ⟨h.up.set h.bf h.bn _,h.bn,h.bs,h.bf,h.ne,by rw [List.getElem?_set_ne (Ne.symm h.ne)]; exact h.sz,List.getElem?_set_self (Yc h.fs)⟩
theorem Dw.setS (h:Dw μ0 n s f sz fs μ) (sz':List Int):Dw μ0 n s f sz' fs (μ.set s (.lst (sz'.map D.int))) :=
 ⟨h.up.set h.bs h.bn _,h.bn,h.bs,h.bf,h.ne,List.getElem?_set_self (Yc h.sz),by rw [List.getElem?_set_ne h.ne]; exact h.fs⟩
theorem ix_sz {μ:Mem} {s k:Nat} {sz:List Int} {Q:QD} (h:μ[s]? = some (.lst (sz.map D.int))) (hk:k < sz.length) (q:Q (.int (sz.getD k 0)) μ):wIdx (.loc s) (natD k) μ Q:=by
 have e:ixD sz.length (k:Int)=some k:=by
  unfold ixD
  have:(k:Int) < (sz.length:Int):=by omega
  simp [this]
 obtain ⟨v,hv⟩:∃ v,sz[k]? = some v:=⟨_,List.getElem?_eq_getElem hk⟩
 have e2:sz.getD k 0=v:=by rw [List.getD_eq_getElem?_getD,hv]; rfl
 rw [e2] at q
 simpa [wIdx,natD,Zb,h,e,hv] using q
theorem Xcj {α:Type} (l:List α) (k:Nat):cutD l none (some (k:Int))=l.take k:=by
 have:¬ ((k:Int) < 0):=by omega
 simp only [cutD,sIxD,this,if_false,List.drop_zero,Nat.sub_zero,Int.toNat_natCast]
 rw [List.take_eq_take_iff]; omega
theorem Wcj {α:Type} (l:List α) (k:Nat):cutD l (some (k:Int)) none=l.drop k:=by
 have:¬ ((k:Int) < 0):=by omega
 simp only [cutD,sIxD,this,if_false,Int.toNat_natCast]
 rw [List.take_of_length_le (by simp)]
 by_cases c:k<=l.length
 ·rw [Nat.min_eq_left c]
 ·rw [Nat.min_eq_right (by omega),List.drop_of_length_le (Nat.le_refl _),List.drop_of_length_le (by omega)]
theorem Qd3 (h:Dw μ0 n s f sz fs μ) (hq:μ[q]? = some (.lst (T.map natD))) (h1:q≠f) (hT:∀ k∈T,k < sz.length) (hsl:sz.length<=60) (hfl:fs.length<=60) (htl:ts.length<=60) {v7:Option D}
  (hZ:∀ μ',Dw μ0 n s f (sz ++ [((T.map fun k=>sz.getD k 0)).sum]) (fs ++ [T]) μ'->Z.nx [some (.loc n),r1,some (.int (w:Int)),some (.loc s),some (.lst ((ts.drop take ++ [sz.length]).map natD)),some (.loc f),some (.int (take:Int)),v7,some (.loc q)] μ') :
  wSs tlD3 Z [some (.loc n),r1,some (.int (w:Int)),some (.loc s),some (.lst (ts.map natD)),some (.loc f),some (.int (take:Int)),v7,some (.loc q)] μ:=by
 simp only [tlD3,wSs,wS,wE,wEs,wI,wSeq,newL,List.getElem?_cons_zero,List.getElem?_cons_succ,List.map_cons,List.map_nil]
 refine ⟨by simp [isCell,h.fs],?_⟩
 simp only [wBlt,Zb,hq,Zf]
 refine DW.TRC.wMeth_loc h.fs ?_
 simp only [Wj]
 refine ⟨by simp only [List.length_map,lim]; omega,?_⟩
 have e1:fs.map tpN ++ [D.tup (T.map natD)]=(fs ++ [T]).map tpN:=by simp [tpN]
 rw [e1]
 have h2:=h.setF (fs ++ [T])
 have hq2:(μ.set f (.lst ((fs ++ [T]).map tpN)))[q]? = some (.lst (T.map natD)):=by rw [List.getElem?_set_ne (Ne.symm h1)]; exact hq
 generalize μ.set f (.lst ((fs ++ [T]).map tpN))=μ1 at h2 hq2
 simp only [hq2]
 refine ⟨by simp [isCell,h2.sz],?_⟩
 refine Wk (g:=fun μ'=>μ'[q]? = some (Cell.lst (T.map natD))) natD (fun k=>D.int (sz.getD k 0)) hq2 _ _ ?_ ?_
 ·intro k hk Y N z
  simp only [bindC,List.getElem?_cons_zero,List.getElem?_cons_succ,Option.join_some]
  exact ix_sz h2.sz (hT k hk) z
 ·have e2:We (T.map fun k=>D.int (sz.getD k 0))=some (T.map fun k=>sz.getD k 0):=Wo _ _
  simp only [List.nil_append,Option.bind_some,e2]
  refine DW.TRC.wMeth_loc h2.sz ?_
  simp only [Wj]
  refine ⟨by simp only [List.length_map,lim]; omega,?_⟩
  have e3:sz.map D.int ++ [D.int (T.map fun k=>sz.getD k 0).sum]=(sz ++ [(T.map fun k=>sz.getD k 0).sum]).map D.int:=by simp
  rw [e3]
  have h3:=h2.setS (sz ++ [(T.map fun k=>sz.getD k 0).sum])
  generalize μ1.set s (.lst ((sz ++ [(T.map fun k=>sz.getD k 0).sum]).map D.int))=μ2 at h3
  simp only [wO,wE,wEs,wInt,List.getElem?_cons_zero,List.getElem?_cons_succ,wSlc,newL,lenOf,Zb,h3.sz,Option.map_some,List.length_map,List.length_append,List.length_cons,List.length_nil,wBin,Wcj]
  have e4:((sz.length + (0 + 1):Nat):Int) - 1=(sz.length:Nat):=by omega
  rw [e4]
  have:=hZ _ h3
  refine ⟨by decide,by simp only [List.length_drop,List.length_map,lim]; omega,?_⟩
  simpa [natD] using this
theorem Wak (μ:Mem) (n:Nat) (l:List Nat):(l.map natD).map (thaw μ n)=l.map natD:=by
 rw [List.map_map]
 refine List.map_congr_left fun k _=>?_
 cases n <;> rfl
theorem Yz {n:Nat}:∀ l:List Nat,flats n (l.map natD)=true
 | []=>by simp [flats]
 | k :: l=>by rw [List.map_cons,flats,Yz l]; cases n <;> rfl
theorem er_map {α β:Type} (f:α->β):∀ (l:List α) (n:Nat),(l.map f).eraseIdx n=(l.eraseIdx n).map f
 | [],n=>by simp
 | a :: l,0=>by simp
 | a :: l,n + 1=>by simp [er_map f l n]
theorem Qd2 {l:List Nat} (h:Dw μ0 n s f sz fs μ) (hp:μ[p]? = some (.lst (l.map natD))) (bp:μ0.length<=p) (ps:p≠s) (pf:p≠f) (hl:l.length<=7) (hk:∀ k∈l,k < sz.length) (hsl:sz.length<=60) (hfl:fs.length<=60) (htl:ts.length<=60) {v8:Option D}
  (hZ:∀ μ' T v7 v8,T.length<=7->(∀ k∈T,k < sz.length)->Dw μ0 n s f (sz ++ [((T.map fun k=>sz.getD k 0)).sum]) (fs ++ [T]) μ'->Z.nx [some (.loc n),r1,some (.int (w:Int)),some (.loc s),some (.lst ((ts.drop take ++ [sz.length]).map natD)),some (.loc f),some (.int (take:Int)),v7,v8] μ') :
  wSs tlD2 Z [some (.loc n),r1,some (.int (w:Int)),some (.loc s),some (.lst (ts.map natD)),some (.loc f),some (.int (take:Int)),some (.loc p),v8] μ:=by
 have d3':∀ {μ:Mem} {q:Nat} {T:List Nat} {v7:Option D},Dw μ0 n s f sz fs μ->μ[q]? = some (.lst (T.map natD))->q≠f->(∀ k∈T,k < sz.length)->T.length<=7->wSs tlD3 Z [some (.loc n),r1,some (.int (w:Int)),some (.loc s),some (.lst (ts.map natD)),some (.loc f),some (.int (take:Int)),v7,some (.loc q)] μ :=
  fun h hq h1 hT hTl=>Qd3 h hq h1 hT hsl hfl htl fun μ' h'=>hZ μ' _ _ _ hTl hT h'
 simp only [tlD2]
 generalize tlD3=G at d3'
 simp only [wSs,wS,wE,wEs,newL,List.getElem?_cons_zero,List.getElem?_cons_succ,List.set_cons_zero,List.set_cons_succ,List.length_nil]
 refine ⟨by simp [lim],?_⟩
 have lp:=Yc hp
 have lf:=Yc h.fs
 have ls:=Yc h.sz
 have lm:=h.up.le
 have bn:=h.bn
 refine ⟨fun m ρ μ'=>∃ (l T:List Nat),m=l.length/\ρ=[some (.loc n),r1,some (.int (w:Int)),some (.loc s),some (.lst (ts.map natD)),some (.loc f),some (.int (take:Int)),some (.loc p),some (.loc μ.length)]/\Dw μ0 n s f sz fs μ'/\μ'[p]? = some (.lst (l.map natD))/\μ'[μ.length]? = some (.lst (T.map natD))/\l.length + T.length<=7/\(∀ k∈l,k < sz.length)/\(∀ k∈T,k < sz.length),⟨l.length,l,[],rfl,rfl,h.apd _,?_,?_,by simpa using hl,hk,by simp⟩,?_⟩
 ·rw [List.getElem?_append_left lp]; exact hp
 ·simp
 ·rintro m ρ μ' ⟨l,T,rfl,rfl,hD,hL,hF,hs,h1,h2⟩
  simp only [wT,wE,wEs,newL,List.getElem?_cons_zero,List.getElem?_cons_succ,List.length_nil]
  refine ⟨by simp [lim],?_⟩
  have e1:thaw μ' 8 (.loc p) = .lst (l.map natD):=by rw [Za2 hL,Wak]
  have e2:thaw μ' 8 (.lst []) = .lst []:=rfl
  refine ⟨by rw [e1]; exact Yz l,by rw [e2]; rfl,?_⟩
  rw [e1,e2]
  cases l with
  | nil =>
   have:eqD (.lst (([]:List Nat).map natD)) (.lst [])=true:=rfl
   simp only [this,wBl,bne_self_eq_false,Bool.false_eq_true,if_false]
   exact d3' hD hF (by omega) h2 (by simpa using hs)
  | cons k l =>
   have:eqD (.lst ((k :: l).map natD)) (.lst [])=false:=rfl
   have cF:isCell μ' (.loc μ.length)=true:=by simp only [isCell,hF]
   have cL:isCell μ' (.loc p)=true:=by simp only [isCell,hL]
   have lL:lenOf μ' (.loc p)=some (l.length + 1):=by simp only [lenOf,Zb,hL,Option.map_some,List.length_map,List.length_cons]
   have hbn:((true != false)=true):=rfl
   simp only [this,wBl,hbn,if_true,wSs,wS,wE,wEs,wBlt,List.getElem?_cons_zero,List.getElem?_cons_succ,cF,cL,lL]
   simp only [List.length_cons] at hs
   refine ⟨trivial,trivial,hD.up.bx,by omega,by omega,fun q b q0 q1=>?_⟩
   have hD2:=hD.box b
   have hL2:(bx μ' n b)[p]? = some (.lst ((k :: l).map natD)):=Ym (by omega) hL
   have hF2:(bx μ' n b)[μ.length]? = some (.lst (T.map natD)):=Ym (by omega) hF
   generalize bx μ' n b=μ2 at hD2 hL2 hF2
   have q2:q.toNat < (k :: l).length:=by simp; omega
   refine DW.TRC.wMeth_loc hL2 ?_
   have ei:ixD ((k :: l).map natD).length q=some q.toNat:=by rw [List.length_map]; exact Zbt q0 (by simp; omega)
   have eg:((k :: l).map natD)[q.toNat]? = some (natD ((k :: l)[q.toNat])):=by rw [List.getElem?_map,List.getElem?_eq_getElem q2]; rfl
   simp only [Wj,ei,eg]
   have hF3:(μ2.set p (.lst (((k :: l).map natD).eraseIdx q.toNat)))[μ.length]? = some (.lst (T.map natD)):=by rw [List.getElem?_set_ne (by omega)]; exact hF2
   refine DW.TRC.wMeth_loc hF3 ?_
   simp only [Wj]
   refine ⟨by simp only [List.length_map,lim]; omega,l.length,by simp,(k :: l).eraseIdx q.toNat,T ++ [(k :: l)[q.toNat]],?_,?_,?_,?_,?_,?_,?_,?_⟩
   ·rw [List.length_eraseIdx_of_lt q2]; rfl
   ·first | rfl | trivial
   ·exact (hD2.other bp ps pf _).other (by omega) (by omega) (by omega) _
   ·rw [List.getElem?_set_ne (by omega),List.getElem?_set_self (Yc hL2),er_map]
   ·rw [List.getElem?_set_self (Yc hF3)]; simp
   ·rw [List.length_eraseIdx_of_lt q2]; simp; omega
   ·exact fun x hx=>h1 x (List.mem_of_mem_eraseIdx hx)
   ·intro x hx
    rcases List.mem_append.mp hx with z | z
    ·exact h2 x z
    ·simp only [List.mem_cons,List.not_mem_nil,or_false] at z
     rw [z]; exact h1 _ (List.getElem_mem q2)
theorem Ybo {ts:List Nat} {is':List Int} (h:is'.Perm (ts.map fun (k:Nat)=>(k:Int))):∃ ts':List Nat,ts'.Perm ts/\is'=ts'.map fun (k:Nat)=>(k:Int):=by
 have e:is'=(is'.map Int.toNat).map fun (k:Nat)=>(k:Int):=by
  rw [List.map_map]
  conv=>lhs; rw [<- List.map_id is']
  refine List.map_congr_left fun x hx=>?_
  obtain ⟨k,_,rfl⟩:=List.mem_map.mp (h.mem_iff.mp hx)
  simp
 refine ⟨is'.map Int.toNat,?_,e⟩
 have:=h.map Int.toNat
 rw [List.map_map] at this
 rwa [show (Int.toNat ∘ fun (k:Nat)=>(k:Int))=id from funext fun k=>by simp,List.map_id] at this
theorem Qd1 (h:Dw μ0 n s f sz fs μ) (hT:hasT μ) (htk:∀ k∈ts,k < sz.length) (hsl:sz.length<=60) (hfl:fs.length<=60) (htl:ts.length<=7) {v7 v8:Option D}
  (hZ:∀ μ' (ts' T:List Nat) v7 v8,ts'.length=ts.length->(∀ k∈ts',k < sz.length)->T.length<=7->(∀ k∈T,k < sz.length)->Dw μ0 n s f (sz ++ [((T.map fun k=>sz.getD k 0)).sum]) (fs ++ [T]) μ'->Z.nx [some (.loc n),r1,some (.int (w:Int)),some (.loc s),some (.lst ((ts'.drop take ++ [sz.length]).map natD)),some (.loc f),some (.int (take:Int)),v7,v8] μ') :
  wSs tlD1 Z [some (.loc n),r1,some (.int (w:Int)),some (.loc s),some (.lst (ts.map natD)),some (.loc f),some (.int (take:Int)),v7,v8] μ:=by
 have d2':∀ {μ:Mem} {p:Nat} {l ts':List Nat} {v8:Option D},ts'.length=ts.length->(∀ k∈ts',k < sz.length)->Dw μ0 n s f sz fs μ->μ[p]? = some (.lst (l.map natD))->μ0.length<=p->p≠s->p≠f->l.length<=7->(∀ k∈l,k < sz.length)->wSs tlD2 Z [some (.loc n),r1,some (.int (w:Int)),some (.loc s),some (.lst (ts'.map natD)),some (.loc f),some (.int (take:Int)),some (.loc p),v8] μ :=
  fun e hk h hp b1 b2 b3 hl hk2=>Qd2 h hp b1 b2 b3 hl hk2 hsl hfl (by omega) fun μ' T v7 v8 hT hTk hD=>hZ μ' _ T v7 v8 e hk hT hTk hD
 simp only [tlD1]
 generalize tlD2=G at d2'
 have e0:(if "ksort" = "{}" then μ ++ [Cell.dic [] []] else if "ksort" = "{t}" then μ ++ [Cell.dtc [] []] else μ)=μ:=by simp
 have e1:∀ (d e:D) (m:Nat),Zbi "ksort" m d e μ=wKso d e μ:=fun d e m=>by funext Q; simp [Zbi]
 simp only [wSs,wS,wE,wEs,List.getElem?_cons_zero,List.getElem?_cons_succ,e0,e1]
 have hiv:((Zf μ (.lst (ts.map natD))).bind We)=some (ts.map fun (k:Nat)=>(k:Int)):=by simp only [Zf,Zb,Option.bind_some]; exact Zcf _
 unfold wKso
 rw [hiv]
 refine ⟨by simp [lim],by simp; omega,hT,sz,fs.map tpN,h.sz,h.fs,fun z hz=>?_,fun is' hp=>?_⟩
 ·obtain ⟨k,hk,rfl⟩:=List.mem_map.mp hz
  have:=htk k hk
  omega
 ·obtain ⟨ts',hp',rfl⟩:=Ybo hp
  rw [<- Ybq]
  simp only [List.set_cons_zero,List.set_cons_succ,List.getElem?_cons_zero,List.getElem?_cons_succ,wO,wE,wInt,wSlc,Xcj,newL]
  have hl:=hp'.length_eq
  have hk:∀ k∈ts',k < sz.length:=fun k hk=>htk k (hp'.mem_iff.mp hk)
  have hm:=h.up.le
  have:=Yc h.sz; have:=Yc h.fs
  refine d2' (l:=ts'.take take) hl hk (h.apd _) (by simp [List.map_take]) (by omega) (by omega) (by omega) (by rw [List.length_take]; omega) (fun k hk'=>hk k (List.mem_of_mem_take hk'))
theorem Qd0 (h:Dw μ0 n s f sz fs μ) (hT:hasT μ) (htk:∀ k∈ts,k < sz.length) (hsl:sz.length<=60) (hfl:fs.length<=60) (htl:ts.length<=7) (ht2:2<=ts.length) (hw:2<=w) {v6 v7 v8:Option D} (hfk:∀ g∈fs,g.length<=7)
  (hZ:∀ μ' (ts' T:List Nat) (take:Nat) v7 v8,2<=take->ts'.length=ts.length->(∀ k∈ts',k < sz.length)->T.length<=7->(∀ k∈T,k < sz.length)->Dw μ0 n s f (sz ++ [((T.map fun k=>sz.getD k 0)).sum]) (fs ++ [T]) μ'->Z.nx [some (.loc n),r1,some (.int (w:Int)),some (.loc s),some (.lst ((ts'.drop take ++ [sz.length]).map natD)),some (.loc f),some (.int (take:Int)),v7,v8] μ') :
  wSs tlD0 Z [some (.loc n),r1,some (.int (w:Int)),some (.loc s),some (.lst (ts.map natD)),some (.loc f),v6,v7,v8] μ:=by
 have d1':∀ {take:Nat},2<=take->wSs tlD1 Z [some (.loc n),r1,some (.int (w:Int)),some (.loc s),some (.lst (ts.map natD)),some (.loc f),some (.int (take:Int)),v7,v8] μ:=fun ht=>Qd1 h hT htk hsl hfl htl fun μ' ts' T v7 v8=>hZ μ' ts' T _ v7 v8 ht
 simp only [tlD0]
 generalize tlD1=G at d1'
 simp only [wSs,wS,wE,wEs,newL,List.getElem?_cons_zero,List.getElem?_cons_succ,wBlt,lenOf,Zb,Option.map_some,List.length_map,List.length_cons,List.length_nil]
 refine ⟨ts.length,w,rfl,ht2,hw,by decide,by decide,?_⟩
 have e1:thaw μ 8 (.loc f) = .lst (fs.map tpN):=by
  rw [Za2 h.fs,List.map_map]
  congr 1
  refine List.map_congr_left fun g _=>?_
  show thaw μ (6 + 1) (.tup (g.map natD))=_
  rw [Yb7,Wak]
  rfl
 have e2:thaw μ 8 (.lst []) = .lst []:=rfl
 have e3:flat 60 (D.lst (fs.map tpN))=true:=by
  simp only [flat]
  have:∀ l:List (List Nat),flats 59 (l.map tpN)=true:=fun l=>by
   induction l with
   | nil=>rfl
   | cons a l ih=>rw [List.map_cons,flats,ih,tpN]; simp only [flat,Bool.and_true]; exact Yz a
  exact this fs
 refine ⟨by rw [e1]; exact e3,by rw [e2]; rfl,?_⟩
 rw [e1,e2]
 have hf:=fs_ge (n:=ts.length) hw
 obtain ⟨z,hz⟩:∃ z:Nat,GOI.fs (ts.length:Int) (w:Int)=(z:Int):=⟨(GOI.fs (ts.length:Int) (w:Int)).toNat,by omega⟩
 have hy:∀ (b:Bool) (Q:QD),(∀ t:Nat,2<=t->Q (.int (t:Int)) μ)->wIdx (D.lst [.int (w:Int),.int (GOI.fs (ts.length:Nat) (w:Nat))]) (.int (if b=true then 1 else 0)) μ Q:=by
  intro b Q q
  cases b with
  | true =>
   have:=q z (by omega)
   rw [hz]
   simpa [wIdx,Zb,ixD] using this
  | false=>simpa [wIdx,Zb,ixD] using q w hw
 cases hb:eqD (.lst (fs.map tpN)) (.lst []) with
 | true=>exact hy true _ fun t ht=>d1' ht
 | false=>exact hy false _ fun t ht=>d1' ht
end
theorem kL_drawn:Keeps nL_drawn iL_drawn spL_drawn:=by
 rintro ds μ Q ⟨n,ls,w,rfl,hb,hT,hl1,hl2,hw1,hw2,h⟩
 have lb:=Wb1 hb
 have step:∀ {Z:DEnds} {μ':Mem} {sz:List Int} {ts:List Nat} {fs:List (List Nat)} {v6 v7 v8:Option D},Dw μ n μ.length (μ.length + 1) sz fs μ'->(∀ k∈ts,k < sz.length)->sz.length<=60->fs.length<=60->ts.length<=7->2<=ts.length->(∀ g∈fs,g.length<=7)->(∀ μ' (ts' T:List Nat) (take:Nat) v7 v8,2<=take->ts'.length=ts.length->(∀ k∈ts',k < sz.length)->T.length<=7->(∀ k∈T,k < sz.length)->Dw μ n μ.length (μ.length + 1) (sz ++ [((T.map fun k=>sz.getD k 0)).sum]) (fs ++ [T]) μ'->Z.nx [some (.loc n),some (.lst (ls.map D.int)),some (.int (w:Int)),some (.loc μ.length),some (.lst ((ts'.drop take ++ [sz.length]).map natD)),some (.loc (μ.length + 1)),some (.int (take:Int)),v7,v8] μ') ->
   wSs tlD0 Z [some (.loc n),some (.lst (ls.map D.int)),some (.int (w:Int)),some (.loc μ.length),some (.lst (ts.map natD)),some (.loc (μ.length + 1)),v6,v7,v8] μ' :=
  fun hD htk hsl hfl htl ht2 hg hZ=>Qd0 hD (hD.up.hasT hb hT) htk hsl hfl htl ht2 hw1 hg hZ
 simp only [iL_drawn]
 generalize tlD0=G at step
 have a1:∀ c:Cell,(μ ++ [c])[μ.length]? = some c:=fun c=>by simp
 simp only [nL_drawn,Wc,topZ,wSs,wS,wE,wEs,wBlt,newL,newR,lenOf,Zb,a1,wInt,Option.map_some,List.length_map,List.map_cons,List.map_nil,List.length_cons,List.length_nil,List.length_append,List.cons_append,List.nil_append,List.getElem?_cons_zero,List.getElem?_cons_succ,List.replicate,List.set_cons_zero,List.set_cons_succ]
 refine ⟨⟨by omega,by simp only [lim]; omega⟩,by simp [lim],?_⟩
 have e0:Zg 0 ((ls.length:Int)).toNat=(List.range ls.length).map natD:=by simp [Zg,natD]
 have hD0:Dw μ n μ.length (μ.length + 1) ls [] (μ ++ [Cell.lst (ls.map D.int)] ++ [Cell.lst []]):=by
  refine ⟨((Upm.rfl hb).apd _).apd _,lb,Nat.le_refl _,by omega,by omega,?_,?_⟩
  ·rw [List.getElem?_append_left (by simp)]; simp
  ·rw [List.getElem?_append_right (by simp)]; simp
 rw [e0]
 refine ⟨fun m ρ μ'=>∃ (sz:List Int) (ts:List Nat) (fs:List (List Nat)) (v6 v7 v8:Option D),m=ts.length/\1<=ts.length/\ts.length + fs.length<=7/\sz.length=ls.length + fs.length/\(∀ k∈ts,k < sz.length)/\(∀ g∈fs,g.length<=7/\∀ k∈g,k < 64)/\Dw μ n μ.length (μ.length + 1) sz fs μ'/\ρ=[some (.loc n),some (.lst (ls.map D.int)),some (.int (w:Int)),some (.loc μ.length),some (.lst (ts.map natD)),some (.loc (μ.length + 1)),v6,v7,v8],⟨ls.length,ls,List.range ls.length,[],none,none,none,by simp,by simp; omega,by simp; omega,by simp,fun k hk=>List.mem_range.mp hk,by simp,hD0,rfl⟩,?_⟩
 rintro m ρ μ' ⟨sz,ts,fs,v6,v7,v8,rfl,t1,t2,hsz,htk,hfk,hD,rfl⟩
 simp only [wT,wE,wEs,wBlt,lenOf,Zb,Option.map_some,List.length_map,wCmp,ltD,wBl,List.getElem?_cons_zero,List.getElem?_cons_succ]
 by_cases c:1 < ts.length
 ·have c':(1:Int) < ((ts.length:Nat):Int):=by omega
  simp only [c',decide_true,if_true]
  refine step hD htk (by omega) (by omega) (by omega) c (fun g hg=>(hfk g hg).1) ?_
  intro μ2 ts' T take v7 v8 htake hl hk hTl hTk hD2
  refine ⟨(ts'.drop take ++ [sz.length]).length,?_,_,ts'.drop take ++ [sz.length],fs ++ [T],_,_,_,rfl,by simp,?_,?_,?_,?_,hD2,rfl⟩
  ·simp; omega
  ·simp; omega
  ·simp; omega
  ·intro k hk2
   rcases List.mem_append.mp hk2 with hk2 | hk2
   ·have:=hk k (List.mem_of_mem_drop hk2)
    simp; omega
   ·simp at hk2; subst hk2; simp
  ·intro g hg
   rcases List.mem_append.mp hg with hg | hg
   ·exact hfk g hg
   ·simp at hg; subst hg
    exact ⟨hTl,fun k hk=>by have:=hTk k hk; omega⟩
 ·have c':¬ (1:Int) < ((ts.length:Nat):Int):=by omega
  simp only [c',decide_false,Bool.false_eq_true,if_false,wFrz,hD.fs]
  exact h fs _ (by omega) hfk (hD.up.set (by omega) lb _)
end DW.K42
end
section
namespace DW.K42
open PySem DW DW.K03 DW.GOI
open DW.TRC (natD Dr Sh small odd_sh Fr0)
noncomputable def Tg1 (μ:Mem) (d:D):Prop:=Dr μ d∨∃ ts,(d = .tup ts∨d = .lst ts)/\ts.length<=20/\∀ t∈ts,Dr μ t
noncomputable def Tg2 (μ:Mem) (d:D):Prop:=Dr μ d∨∃ ts,(d = .tup ts∨d = .lst ts)/\ts.length<=20/\∀ t∈ts,Tg1 μ t
theorem Zbx {n:Nat} {μ μ':Mem} {t:D} (h:Dr μ t) (hb:Yh μ n) (u:Upm n μ μ'):Dr μ' t:=h.imp id fun ⟨k,a,b⟩=>⟨k,u.get k _ (fun e=>by
 subst e
 obtain ⟨c,hc⟩:=hb
 rw [hc] at a
 cases a) a,b⟩
theorem tg1_up {n:Nat} {μ μ':Mem} {t:D} (h:Tg1 μ t) (hb:Yh μ n) (u:Upm n μ μ'):Tg1 μ' t:=h.imp (fun z=>Zbx z hb u) fun ⟨ts,a,b,c⟩=>⟨ts,a,b,fun t ht=>Zbx (c t ht) hb u⟩
theorem tg2_up {n:Nat} {μ μ':Mem} {t:D} (h:Tg2 μ t) (hb:Yh μ n) (u:Upm n μ μ'):Tg2 μ' t:=h.imp (fun z=>Zbx z hb u) fun ⟨ts,a,b,c⟩=>⟨ts,a,b,fun t ht=>tg1_up (c t ht) hb u⟩
theorem Xai {μ:Mem} {t:D} (h:Dr μ t):good μ t=true:=by
 rcases h with ⟨i,_,rfl⟩ | ⟨n,hn,h⟩
 ·rfl
 ·have dd:good μ (.loc n)=true:=by simp only [good]; unfold dicB; rw [hn]
  simp only [odds,List.mem_cons,List.not_mem_nil,or_false] at h
  rcases h with rfl | rfl | rfl | rfl | rfl | rfl | rfl | rfl | rfl | rfl | rfl | rfl | rfl | rfl | rfl | rfl <;> first | rfl | exact dd
theorem Xa2 {μ:Mem} {t:D} (h:Tg1 μ t):good μ t=true:=by
 rcases h with h | ⟨ts,rfl | rfl,_,h⟩
 ·exact Xai h
 ·simp only [good]; exact Xw fun d hd=>Xai (h d hd)
 ·simp only [good]; exact Xw fun d hd=>Xai (h d hd)
theorem Ya2 {μ:Mem} {t:D} (h:Tg2 μ t):good μ t=true:=by
 rcases h with h | ⟨ts,rfl | rfl,_,h⟩
 ·exact Xai h
 ·simp only [good]; exact Xw fun d hd=>Xa2 (h d hd)
 ·simp only [good]; exact Xw fun d hd=>Xa2 (h d hd)
theorem dr_seq {μ:Mem} {ts:List D} (h:Dr μ (.tup ts)∨Dr μ (.lst ts)):ts.length<=2/\∀ es,D.tup es∈ts->es.length<=2:=by
 rcases h with h | h
 ·rcases h with ⟨i,_,e⟩ | ⟨n,hn,h⟩
  ·cases e
  ·simp only [odds,List.mem_cons,List.not_mem_nil,or_false,reduceCtorEq,false_or,D.tup.injEq] at h
   rcases h with rfl | rfl | rfl | rfl <;> simp
 ·rcases h with ⟨i,_,e⟩ | ⟨n,hn,h⟩
  ·cases e
  ·simp only [odds,List.mem_cons,List.not_mem_nil,or_false,reduceCtorEq,false_or,D.lst.injEq] at h
   rcases h with rfl | rfl | rfl <;> simp
theorem Ybk {μ:Mem} {t:D} (h:Tg2 μ t):K42.small t:=by
 rintro ds rfl
 rcases h with h | ⟨ts,e,hl,h⟩
 ·obtain ⟨h1,h2⟩:=dr_seq (.inr h)
  exact ⟨by omega,fun es he=>by have:=h2 es he; omega⟩
 ·have:ts=ds:=by rcases e with e | e <;> cases e; rfl
  subst this
  refine ⟨by omega,fun es he=>?_⟩
  rcases h _ he with h | ⟨us,e,hl,_⟩
  ·have:=(dr_seq (.inl h)).1; omega
  ·have:us=es:=by rcases e with e | e <;> cases e; rfl
   subst this; omega
noncomputable def Sm (W K:Nat) (p:PyData):Prop:=p.showable=true/\p.leavesShort 60=true/\p.weight<=W/\p.depth<=K
theorem sm_all {W K:Nat}:∀ {ps:List PyData},(∀ p∈ps,Sm W K p)->PyData.showableAll ps=true/\PyData.leavesShortAll 60 ps=true/\PyData.weightAll ps<=(W + 1) * ps.length/\PyData.depthAll ps<=K
 | [],_=>⟨rfl,rfl,Nat.le_refl _,Nat.zero_le _⟩
 | p :: ps,h=>by
  obtain ⟨z1,z2,z3,z4⟩:=h p (by simp)
  obtain ⟨a,b,c,d⟩:=sm_all (ps:=ps) fun x hx=>h x (by simp [hx])
  refine ⟨by simp [PyData.showableAll,z1,a],by simp [PyData.leavesShortAll,z2,b],?_,?_⟩
  ·simp only [PyData.weightAll,List.length_cons,Nat.mul_succ]; omega
  ·simp only [PyData.depthAll]; omega
theorem Xa7 {μ:Mem} {n W K:Nat}:∀ {ts:List D},(∀ t∈ts,∃ p,datM μ n t=some p/\Sm W K p)->∃ ps,allS (ts.map (datM μ n))=some ps/\ps.length=ts.length/\∀ p∈ps,Sm W K p
 | [],_=>⟨[],rfl,rfl,by simp⟩
 | t :: ts,h=>by
  obtain ⟨p,e,s⟩:=h t (by simp)
  obtain ⟨ps,e2,l,s2⟩:=Xa7 (ts:=ts) fun x hx=>h x (by simp [hx])
  refine ⟨p :: ps,by rw [List.map_cons,e,allS,e2]; rfl,by simp [l],fun q hq=>?_⟩
  rcases List.mem_cons.mp hq with rfl | z
  ·exact s
  ·exact s2 q z
theorem Vas {W K W' K':Nat} {p:PyData} (h:Sm W K p) (h1:W<=W') (h2:K<=K'):Sm W' K' p:=⟨h.1,h.2.1,Nat.le_trans h.2.2.1 h1,Nat.le_trans h.2.2.2 h2⟩
theorem Xbl {μ:Mem} {n W K:Nat} {ts:List D} {d:D} (hd:d = .tup ts∨d = .lst ts) (hl:ts.length<=20) (h:∀ t∈ts,∃ p,datM μ n t=some p/\Sm W K p):∃ p,datM μ (n + 1) d=some p/\Sm ((W + 1) * 20 + 1) (K + 1) p:=by
 obtain ⟨ps,e,l,s⟩:=Xa7 h
 obtain ⟨a,b,c,g⟩:=sm_all s
 have hw:PyData.weightAll ps<=(W + 1) * 20:=Nat.le_trans c (Nat.mul_le_mul_left _ (by omega))
 rcases hd with rfl | rfl
 ·exact ⟨.tuple ps,by rw [datM]; simp only [e]; rfl,by simpa [PyData.showable] using a,by simpa [PyData.leavesShort] using b,by simp only [PyData.weight]; omega,by simp only [PyData.depth]; omega⟩
 ·exact ⟨.list ps,by rw [datM]; simp only [e]; rfl,by simpa [PyData.showable] using a,by simpa [PyData.leavesShort] using b,by simp only [PyData.weight]; omega,by simp only [PyData.depth]; omega⟩
theorem Ybx {μ:Mem} {t:D} (n:Nat) (h:Dr μ t):∃ p,datM μ (n + 5) t=some p/\Sm 200 5 p:=by
 have sh:∀ p,Sh p=true->Sm 200 5 p:=fun p h=>by
  simp only [Sh,Bool.and_eq_true,decide_eq_true_eq] at h
  exact ⟨h.1.1.1,h.1.1.2,h.1.2,h.2⟩
 rcases h with ⟨i,hi,rfl⟩ | ⟨n',hn,h⟩
 ·exact ⟨_,rfl,sh _ (DW.TRC.small i hi)⟩
 ·have z:=odd_sh
  simp only [Bool.and_eq_true] at z
  obtain ⟨⟨⟨⟨⟨⟨⟨⟨⟨⟨⟨⟨⟨⟨⟨a1,a2⟩,a3⟩,a4⟩,a5⟩,a6⟩,a7⟩,a8⟩,a9⟩,b1⟩,b2⟩,b3⟩,b4⟩,b5⟩,b6⟩,b7⟩:=z
  simp only [odds,List.mem_cons,List.not_mem_nil,or_false] at h
  rcases h with rfl | rfl | rfl | rfl | rfl | rfl | rfl | rfl | rfl | rfl | rfl | rfl | rfl | rfl | rfl | rfl
  ·exact ⟨_,rfl,sh _ a1⟩
  ·exact ⟨_,rfl,sh _ a2⟩
  ·exact ⟨_,rfl,sh _ a3⟩
  ·exact ⟨_,rfl,sh _ a4⟩
  ·exact ⟨_,rfl,sh _ a5⟩
  ·exact ⟨_,rfl,sh _ a6⟩
  ·exact ⟨_,rfl,sh _ a7⟩
  ·exact ⟨_,rfl,sh _ a8⟩
  ·exact ⟨_,rfl,sh _ a9⟩
  ·exact ⟨_,rfl,sh _ b1⟩
  ·exact ⟨_,rfl,sh _ b2⟩
  ·exact ⟨.dict [(.str ⟨#[97]⟩,.int 1)],by rw [datM]; simp only [hn]; rfl,sh _ b3⟩
  ·exact ⟨_,rfl,sh _ b4⟩
  ·exact ⟨_,rfl,sh _ b5⟩
  ·exact ⟨_,rfl,sh _ b6⟩
  ·exact ⟨_,rfl,sh _ b7⟩
theorem tg2_dat {μ:Mem} {d:D} (h:Tg2 μ d):∃ p,datM μ 40 d=some p/\Sm 90000 20 p:=by
 rcases h with h | ⟨ts,e,hl,h⟩
 ·obtain ⟨p,e,s⟩:=Ybx 35 h
  exact ⟨p,e,Vas s (by omega) (by omega)⟩
 ·obtain ⟨p,e,s⟩:=Xbl (n:=39) (W:=4021) (K:=6) e hl fun t ht=>by
   rcases h t ht with h | ⟨us,e,hl,h⟩
   ·obtain ⟨p,e,s⟩:=Ybx 34 h
    exact ⟨p,e,Vas s (by omega) (by omega)⟩
   ·exact Xbl (n:=38) (W:=200) (K:=5) e hl fun t ht=>Ybx 33 (h t ht)
  exact ⟨p,e,Vas s (by omega) (by omega)⟩
theorem Var {α:Type} {f g:α->Option PyData}:∀ {l:List α} {ps:List PyData},(∀ x∈l,∀ p,f x=some p->g x=some p)->allS (l.map f)=some ps->allS (l.map g)=some ps
 | [],ps,_,h=>h
 | x :: l,ps,hs,h=>by
  rw [List.map_cons] at h ⊢
  cases q:f x with
  | none=>rw [q] at h; cases h
  | some p =>
   rw [q] at h
   cases q2:allS (l.map f) with
   | none=>rw [allS,q2] at h; cases h
   | some ps2 =>
    rw [hs x (by simp) p q,allS,Var (fun y hy=>hs y (by simp [hy])) q2]
    rw [allS,q2] at h
    exact h
theorem Ya7 {μ μ':Mem} (f:Fr0 μ μ'):∀ (n:Nat) (d:D) (p:PyData),datM μ n d=some p->datM μ' n d=some p
 | 0,d,p,h=>by cases d <;> first | exact h | cases h
 | n + 1,d,p,h=>by
  have ih:=Ya7 f n
  have go:∀ {β:Type} (l:List D) (F:List PyData->PyData) (p:PyData),(allS (l.map (datM μ n))).map F=some p->(allS (l.map (datM μ' n))).map F=some p:=fun l F p h=>by
   cases q:allS (l.map (datM μ n)) with
   | none=>rw [q] at h; cases h
   | some ps=>rw [Var (fun x _ p hp=>ih x p hp) q,<- q]; exact h
  cases d with
  | tup ds=>rw [datM] at h ⊢; exact go (β:=Nat) ds _ p h
  | lst ds=>rw [datM] at h ⊢; exact go (β:=Nat) ds _ p h
  | dic ks ds=>rw [datM] at h ⊢; exact go (β:=Nat) ds _ p h
  | loc k =>
   rw [datM] at h ⊢
   cases q:μ[k]? with
   | none=>rw [q] at h; cases h
   | some c =>
    rw [f.get q]
    rw [q] at h
    cases c with
    | lst ds=>exact go (β:=Nat) ds _ p h
    | dic ks ds=>exact go (β:=Nat) ds _ p h
    | _=>exact h
  | _=>exact h
theorem tg2_rpr {μ:Mem} {d:D} (h:Tg2 μ d):∃ s:List Nat,∀ (ν:Mem) (Q:QD),Q (.str s) (μ ++ ν)->wRpr d (μ ++ ν) Q:=by
 obtain ⟨p,e,s1,s2,s3,s4⟩:=tg2_dat h
 have hr:rprOk d=true:=by
  have:=Ya2 h
  cases d <;> first | rfl | simp [good] at this
 exact ⟨_,fun ν Q q=>⟨hr,40,p,Ya7 ⟨by simp,fun i hi=>List.getElem?_append_left hi⟩ 40 d p e,s1,s2,by omega,by omega,q⟩⟩
theorem Xv {l:List D} {a b:Option Int} {x:D} (h:x∈cutD l a b):x∈l:=List.mem_of_mem_drop (List.mem_of_mem_take h)
theorem Wai {l:List D} {a b:Option Int}:(cutD l a b).length<=l.length:=by
 unfold cutD
 rw [List.length_take,List.length_drop]
 omega
noncomputable def Rw (μ:Mem) (o:List D):Prop:=o.length<=8/\∀ t∈o,Dr μ t
noncomputable def Tr (μ:Mem) (T:List D):Prop:=T.length<=8/\∀ t∈T,∃ o,t = .tup o/\Rw μ o
def spL_turned:DSp:=fun ds μ Q=>∃ (n dn m:Nat) (T:List D) (od:D),ds=[.loc n,.lst T,.int (m:Int),od]/\Yh μ n/\μ[dn]? = some (.dic [.inr [97]] [.int 1])/\od∈odds dn/\1<=m/\m<=20/\Tr μ T /\
 ∀ d b,Tg2 (bx μ n b) d->Q d (bx μ n b)
def nL_turned:List Str:=["box","thing","many","odd","at","one","j","news","some"]
noncomputable def tlU3:Ss:=(.cons (.ret (.idx (.var 8) (.call "_law_take" spL_take (.cons (.var 0) (.cons (.cst (.int 12)) .nil))))) .nil)
noncomputable def tlU2:Ss:=(.cons (.set 8 (.bin .Add (.var 8) (.lst false (.cons (.slc false (.var 1) .nil (.cons (.neg (.cst (.int 1))) .nil)) (.cons (.bin .Add (.var 1) (.lst false (.cons (.tup (.cons (.bin .Sub (.bin .Add (.var 2) (.blt "len" (.cons (.var 1) .nil))) (.cst (.int 1))) (.cons (.var 6) .nil))) .nil))) (.cons (.bin .Add (.slc false (.var 1) (.cons (.var 4) .nil) .nil) (.slc false (.var 1) .nil (.cons (.var 4) .nil))) (.cons (.blt "tuple" (.cons (.var 1) .nil)) .nil))))))) tlU3)
noncomputable def tlU1:Ss:=(.cons (.set 8 (.comp false 1 false [1,4] (.bin .Add (.bin .Add (.slc false (.var 1) .nil (.cons (.var 2) .nil)) (.lst false (.cons (.var 0) .nil))) (.slc false (.var 1) (.cons (.bin .Add (.var 2) (.cst (.int 1))) .nil) .nil)) (.seq (.var 7)) .nil)) tlU2)
noncomputable def tlU0:Ss:=(.cons (.set 7 (.lst false (.cons (.slc false (.var 5) .nil (.cons (.neg (.cst (.int 1))) .nil)) (.cons (.bin .Add (.var 5) (.tup (.cons (.var 6) .nil))) (.cons (.bin .Add (.slc false (.var 5) .nil (.cons (.neg (.cst (.int 1))) .nil)) (.tup (.cons (.var 6) .nil))) (.cons (.bin .Add (.slc false (.var 5) .nil (.cons (.neg (.cst (.int 1))) .nil)) (.slc false (.var 5) .nil (.cons (.cst (.int 1)) .nil))) (.cons (.blt "list" (.cons (.var 5) .nil)) (.cons (.bin .Add (.slc false (.var 5) .nil (.cons (.neg (.cst (.int 1))) .nil)) (.tup (.cons (.cst (.bl true)) .nil))) .nil)))))))) (.cons (.set 7 (.bin .Add (.var 7) (.lst false (.cons (.var 3) (.cons (.bin .Add (.slc false (.var 5) (.cons (.cst (.int 1)) .nil) .nil) (.tup (.cons (.neg (.cst (.int 1))) .nil))) .nil))))) tlU1))
noncomputable def iL_turned:Ss:=(.cons (.set 4 (.call "_law_take" spL_take (.cons (.var 0) (.cons (.blt "max" (.cons (.cst (.int 1)) (.cons (.blt "len" (.cons (.var 1) .nil)) .nil))) .nil)))) (.cons (.set 5 (.idx (.bin .Add (.slc false (.var 1) (.cons (.var 4) .nil) (.cons (.bin .Add (.var 4) (.cst (.int 1))) .nil)) (.lst false (.cons (.tup (.cons (.cst (.int 0)) (.cons (.cst (.int 1)) .nil))) .nil))) (.cst (.int 0)))) (.cons (.set 6 (.call "_law_take" spL_take (.cons (.var 0) (.cons (.bin .Add (.var 2) (.blt "len" (.cons (.var 1) .nil))) .nil)))) tlU0)))
section
variable {Q:QD} {μ:Mem} {n dn m a:Nat} {j:Int} {T o:List D} {od:D} {v5 v7:Option D}
theorem Zbk {ts:List D} (h:∀ t∈ts,Tg1 μ t) (hl:ts.length<=20):Tg2 μ (.lst ts):=.inr ⟨ts,.inr rfl,hl,h⟩
theorem Tr.tg (h:Tr μ T) {t:D} (ht:t∈T):Tg1 μ t:=by
 obtain ⟨o,rfl,h2⟩:=h.2 t ht
 exact .inr ⟨o,.inl rfl,by have:=h2.1; omega,h2.2⟩
theorem Qu3 {some8:List D} (hb:Yh μ n) (hl:some8.length=12) (h8:∀ d∈some8,Tg2 μ d) (h:∀ d b,Tg2 (bx μ n b) d->Q d (bx μ n b)) {r1 r2 r3 r4 r6:Option D} :
  wSs tlU3 (topZ Q) [some (.loc n),r1,r2,r3,r4,v5,r6,v7,some (.lst some8)] μ:=by
 simp only [tlU3,topZ,wSs,wS,wE,wEs,List.getElem?_cons_zero,List.getElem?_cons_succ]
 refine ⟨hb,by decide,by decide,fun d b d0 d1=>?_⟩
 have hd:d.toNat < some8.length:=by omega
 obtain ⟨x,e1,e2⟩:=at_mem hd
 have e3:ixD some8.length d=some d.toNat:=by rw [hl]; exact Zbt d0 d1
 simp only [wIdx,Zb,e3,Option.bind_some,e1]
 exact h x b (tg2_up (h8 x e2) hb ((Upm.rfl hb).box b))
theorem Qu2 {some8:List D} (hb:Yh μ n) (hl:some8.length=8) (h8:∀ d∈some8,Tg2 μ d) (hm:m<=20) (m1:1<=m) (hT:Tr μ T) (hj:0<=j/\j < 64) (h:∀ d b,Tg2 (bx μ n b) d->Q d (bx μ n b)) :
  wSs tlU2 (topZ Q) [some (.loc n),some (.lst T),some (.int (m:Int)),some od,some (.int (a:Int)),v5,some (.int j),v7,some (.lst some8)] μ:=by
 have u3':∀ {some8:List D},some8.length=12->(∀ d∈some8,Tg2 μ d)->wSs tlU3 (topZ Q) [some (.loc n),some (.lst T),some (.int (m:Int)),some od,some (.int (a:Int)),v5,some (.int j),v7,some (.lst some8)] μ:=fun hl h8=>Qu3 hb hl h8 h
 simp only [tlU2]
 generalize tlU3=G at u3'
 have hTl:=hT.1
 have cl:∀ {x y:Option Int},(cutD T x y).length<=8:=fun {x y}=>Nat.le_trans Wai hTl
 have c1:=cl (x:=none) (y:=some (-1))
 have c2:=cl (x:=some (a:Int)) (y:=none)
 have c3:=cl (x:=none) (y:=some (a:Int))
 simp only [wSs,wS,wE,wEs,wO,wInt,wSlc,newL,wBin,wBlt,lenOf,Zb,Option.map_some,List.getElem?_cons_zero,List.getElem?_cons_succ,List.set_cons_zero,List.set_cons_succ,List.length_cons,List.length_nil]
 refine ⟨by decide,by decide,by simp only [lim]; omega,by simp only [lim]; omega,by decide,by simp only [lim]; omega,u3' (by simp; omega) fun d hd=>?_⟩
 rcases List.mem_append.mp hd with hd | hd
 ·exact h8 d hd
 ·simp only [List.mem_cons,List.not_mem_nil,or_false] at hd
  rcases hd with rfl | rfl | rfl | rfl
  ·exact Zbk (fun t ht=>hT.tg (Xv ht)) (by omega)
  ·refine Zbk (fun t ht=>?_) (by simp; omega)
   rcases List.mem_append.mp ht with ht | ht
   ·exact hT.tg ht
   ·simp only [List.mem_cons,List.not_mem_nil,or_false] at ht
    subst ht
    refine .inr ⟨_,.inl rfl,by simp,fun t ht=>?_⟩
    simp only [List.mem_cons,List.not_mem_nil,or_false] at ht
    rcases ht with rfl | rfl
    ·exact .inl ⟨m + T.length - 1,by omega,by simp only [natD]; congr 1; omega⟩
    ·exact .inl ⟨j.toNat,by omega,by simp only [natD]; congr 1; omega⟩
  ·refine Zbk (fun t ht=>?_) (by simp; omega)
   rcases List.mem_append.mp ht with ht | ht
   ·exact hT.tg (Xv ht)
   ·exact hT.tg (Xv ht)
  ·exact .inr ⟨T,.inl rfl,by omega,fun t ht=>hT.tg ht⟩
theorem Qu1 {news:List D} (hb:Yh μ n) (hl:news.length=8) (h7:∀ d∈news,Tg1 μ d) (hm:m<=20) (m1:1<=m) (hT:Tr μ T) (hj:0<=j/\j < 64) (h:∀ d b,Tg2 (bx μ n b) d->Q d (bx μ n b)) {v8:Option D} :
  wSs tlU1 (topZ Q) [some (.loc n),some (.lst T),some (.int (m:Int)),some od,some (.int (a:Int)),v5,some (.int j),some (.lst news),v8] μ:=by
 have u2':∀ {some8:List D},some8.length=8->(∀ d∈some8,Tg2 μ d)->wSs tlU2 (topZ Q) [some (.loc n),some (.lst T),some (.int (m:Int)),some od,some (.int (a:Int)),v5,some (.int j),some (.lst news),some (.lst some8)] μ:=fun hl h8=>Qu2 hb hl h8 hm m1 hT hj h
 simp only [tlU1]
 generalize tlU2=G at u2'
 have hTl:=hT.1
 have cl:∀ {x y:Option Int},(cutD T x y).length<=8:=fun {x y}=>Nat.le_trans Wai hTl
 simp only [wSs,wS,wE,wEs,wI,wSeq,newL,List.getElem?_cons_zero,List.getElem?_cons_succ,List.map_cons,List.map_nil]
 have ei:news=news.map fun d=>d:=by simp
 conv=>arg 5; rw [ei]
 refine Wk (g:=fun _=>True) (fun d:D=>d) (fun d=>D.lst (cutD T none (some (a:Int)) ++ [d] ++ cutD T (some ((a:Int) + 1)) none)) trivial _ _ ?_ ?_
 ·intro e he Y N q
  have c2:=cl (x:=none) (y:=some (a:Int))
  have c3:=cl (x:=some ((a:Int) + 1)) (y:=none)
  simp only [bindC,wTs,wE,wEs,wO,wInt,wSlc,newL,wBin,List.getElem?_cons_zero,List.getElem?_cons_succ,Option.join_some,List.length_append,List.length_cons,List.length_nil]
  exact ⟨by decide,by simp only [lim]; omega,by simp only [lim]; omega,q⟩
 ·simp only [List.nil_append,List.set_cons_zero,List.set_cons_succ]
  refine u2' (by simpa using hl) fun d hd=>?_
  obtain ⟨x,hx,rfl⟩:=List.mem_map.mp hd
  have c2:=cl (x:=none) (y:=some (a:Int))
  have c3:=cl (x:=some ((a:Int) + 1)) (y:=none)
  refine Zbk (fun t ht=>?_) (by simp; omega)
  rcases List.mem_append.mp ht with ht | ht
  ·rcases List.mem_append.mp ht with ht | ht
   ·exact hT.tg (Xv ht)
   ·simp only [List.mem_cons,List.not_mem_nil,or_false] at ht
    subst ht; exact h7 _ hx
  ·exact hT.tg (Xv ht)
theorem Qu0 (hb:Yh μ n) (hd:μ[dn]? = some (.dic [.inr [97]] [.int 1])) (ho:od∈odds dn) (hR:Rw μ o) (hm:m<=20) (m1:1<=m) (hT:Tr μ T) (hj:0<=j/\j < 64) (h:∀ d b,Tg2 (bx μ n b) d->Q d (bx μ n b)) {v8:Option D} :
  wSs tlU0 (topZ Q) [some (.loc n),some (.lst T),some (.int (m:Int)),some od,some (.int (a:Int)),some (.tup o),some (.int j),v7,v8] μ:=by
 have u1':∀ {news:List D},news.length=8->(∀ d∈news,Tg1 μ d)->wSs tlU1 (topZ Q) [some (.loc n),some (.lst T),some (.int (m:Int)),some od,some (.int (a:Int)),some (.tup o),some (.int j),some (.lst news),v8] μ:=fun hl h7=>Qu1 hb hl h7 hm m1 hT hj h
 simp only [tlU0]
 generalize tlU1=G at u1'
 have hol:=hR.1
 have cl:∀ {x y:Option Int},(cutD o x y).length<=8:=fun {x y}=>Nat.le_trans Wai hol
 have c1:=cl (x:=none) (y:=some (-1))
 have c2:=cl (x:=none) (y:=some 1)
 have c3:=cl (x:=some 1) (y:=none)
 simp only [wSs,wS,wE,wEs,wO,wInt,wSlc,newL,wBin,wBlt,lenOf,Zb,Option.map_some,List.getElem?_cons_zero,List.getElem?_cons_succ,List.set_cons_zero,List.set_cons_succ,List.length_cons,List.length_nil]
 have L:∀ k:Nat,k<=100->k<=lim:=fun k hk=>by simp only [lim]; omega
 refine ⟨L _ (by omega),L _ (by omega),L _ (by omega),L _ (by omega),L _ (by omega),L _ (by omega),L _ (by omega),L _ (by omega),L _ (by omega),L _ (by omega),L _ (by omega),L _ (by omega),u1' rfl fun d hd'=>?_⟩
 have dj:Dr μ (.int j):=.inl ⟨j.toNat,by omega,by simp only [natD]; congr 1; omega⟩
 have dt:Dr μ (.bl true):=.inr ⟨dn,hd,by simp [odds]⟩
 have dm:Dr μ (.int (-1)):=.inr ⟨dn,hd,by simp [odds]⟩
 have R2:∀ (p q:List D),(∀ t∈p,Dr μ t)->(∀ t∈q,Dr μ t)->p.length + q.length<=20->Tg1 μ (.tup (p ++ q)):=fun p q h1 h2 hl=>.inr ⟨_,.inl rfl,by simpa using hl,fun t ht=>by
  rcases List.mem_append.mp ht with ht | ht
  ·exact h1 t ht
  ·exact h2 t ht⟩
 have one:∀ {x:D},Dr μ x->∀ t∈[x],Dr μ t:=fun h t ht=>by simp at ht; subst ht; exact h
 have cm:∀ {x y:Option Int},∀ t∈cutD o x y,Dr μ t:=fun t ht=>hR.2 t (Xv ht)
 simp only [List.cons_append,List.nil_append,List.mem_cons,List.not_mem_nil,or_false] at hd'
 rcases hd' with rfl | rfl | rfl | rfl | rfl | rfl | rfl | rfl
 ·exact .inr ⟨_,.inl rfl,by omega,cm⟩
 ·exact R2 _ _ hR.2 (one dj) (by simp; omega)
 ·exact R2 _ _ cm (one dj) (by simp; omega)
 ·exact R2 _ _ cm cm (by omega)
 ·exact .inr ⟨_,.inr rfl,by omega,hR.2⟩
 ·exact R2 _ _ cm (one dt) (by simp; omega)
 ·exact .inl (.inr ⟨dn,hd,ho⟩)
 ·exact R2 _ _ cm (one dm) (by simp; omega)
end
theorem kL_turned:Keeps nL_turned iL_turned spL_turned:=by
 rintro ds μ Q ⟨n,dn,m,T,od,rfl,hb,hd,ho,m1,m2,hT,h⟩
 have hTl:=hT.1
 have dne:∀ {μ:Mem},Yh μ n->μ[dn]? = some (.dic [.inr [97]] [.int 1])->dn≠n:=fun hb hd e=>by
  subst e
  obtain ⟨c,hc⟩:=hb
  rw [hc] at hd
  cases hd
 have trU:∀ {b:Int},Tr (bx μ n b) T:=fun {b}=>⟨hTl,fun t ht=>by
  obtain ⟨o,e,h1,h2⟩:=hT.2 t ht
  exact ⟨o,e,h1,fun t ht=>Zbx (h2 t ht) hb ((Upm.rfl hb).box b)⟩⟩
 have u0':∀ {b:Int} {o:List D} {j:Int} {a:Nat} {v7 v8:Option D},Rw (bx μ n b) o->0<=j/\j < 64->wSs tlU0 (topZ Q) [some (.loc n),some (.lst T),some (.int (m:Int)),some od,some (.int (a:Int)),some (.tup o),some (.int j),v7,v8] (bx μ n b) :=
  fun {b o j a v7 v8} hR hj=>Qu0 (Vh hb) (Ym (dne hb hd) hd) ho hR m2 m1 trU hj fun d b2 hd2=>by
   rw [Xb1] at hd2 ⊢
   exact h d b2 hd2
 simp only [iL_turned]
 generalize tlU0=G at u0'
 simp only [nL_turned,Wc,topZ,wSs,wS,wE,wEs,wBlt,lenOf,Zb,Option.map_some,List.map_cons,List.map_nil,List.length_cons,List.length_nil,List.cons_append,List.nil_append,List.getElem?_cons_zero,List.getElem?_cons_succ,List.replicate]
 refine ⟨hb,by split <;> omega,by split <;> omega,fun d b d0 d1=>?_⟩
 obtain ⟨a,rfl⟩:∃ a:Nat,d=(a:Int):=⟨d.toNat,by omega⟩
 have cl:(cutD T (some (a:Int)) (some ((a:Int) + 1))).length<=8:=Nat.le_trans Wai hTl
 simp only [wE,wEs,wO,wInt,wSlc,newL,wBin,List.getElem?_cons_zero,List.getElem?_cons_succ,List.set_cons_zero,List.set_cons_succ,List.length_cons,List.length_nil]
 refine ⟨by decide,by decide,by simp only [lim]; omega,?_⟩
 obtain ⟨o,x,e1,hR⟩:∃ o x,cutD T (some (a:Int)) (some ((a:Int) + 1)) ++ [D.tup [.int 0,.int 1]] = .tup o :: x/\Rw (bx μ n b) o:=by
  cases hc:cutD T (some (a:Int)) (some ((a:Int) + 1)) with
  | nil=>exact ⟨[.int 0,.int 1],[],rfl,by simp,fun t ht=>by
    simp at ht
    rcases ht with rfl | rfl
    ·exact .inl ⟨0,by omega,rfl⟩
    ·exact .inl ⟨1,by omega,rfl⟩⟩
  | cons y l =>
   have hy:y∈T:=Xv (a:=some (a:Int)) (b:=some ((a:Int) + 1)) (by rw [hc]; simp)
   obtain ⟨o,rfl,hR⟩:=(trU (b:=b)).2 y hy
   exact ⟨o,_,rfl,hR⟩
 rw [e1]
 have e2:ixD (D.tup o :: x).length 0=some 0:=by unfold ixD; simp
 simp only [wIdx,Zb,e2,Option.bind_some,List.getElem?_cons_zero,List.getElem?_cons_succ,Option.map_some]
 refine ⟨Vh hb,by omega,by omega,fun j b2 j0 j1=>?_⟩
 rw [Xb1]
 exact u0' ⟨hR.1,fun t ht=>by
  have:=Zbx (hR.2 t ht) (Vh hb) ((Upm.rfl (Vh hb)).box b2)
  rwa [Xb1] at this⟩ ⟨j0,by omega⟩
end DW.K42
end
section
namespace DW.K42
open PySem DW DW.K03 DW.GOI
open DW.TRC (natD Dr Fr0)
def spL_lengths:DSp:=fun ds μ Q=>match ds with
 | [.loc n,.int m]=>Yh μ n/\1<=m/\m<=60/\∀ (ls:List Int) (b:Int),1<=ls.length->(ls.length:Int)<=m->(∀ x∈ls,0<=x)->Q (.lst (ls.map D.int)) (bx μ n b)
 | _=>False
def nL_lengths:List Str:=["box","most","top"]
noncomputable def iL_lengths:Ss:=(.cons (.set 2 (.idx (.lst false (.cons (.cst (.int 4)) (.cons (.cst (.int 10)) (.cons (.cst (.int 100)) (.cons (.bin .Pow (.cst (.int 10)) (.cst (.int 6))) .nil))))) (.call "_law_take" spL_take (.cons (.var 0) (.cons (.cst (.int 4)) .nil))))) (.cons (.ret (.comp false 1 false [0,2] (.call "_law_take" spL_take (.cons (.var 1) (.cons (.var 2) .nil))) (.rng (.cons (.bin .Add (.cst (.int 1)) (.call "_law_take" spL_take (.cons (.var 0) (.cons (.var 1) .nil)))) .nil)) .nil)) .nil))
theorem kL_lengths:Keeps nL_lengths iL_lengths spL_lengths:=by
 intro ds μ Q h
 unfold spL_lengths at h
 split at h
 ·obtain ⟨hb,m1,m2,h⟩:=h
  rename_i n m
  simp [iL_lengths,nL_lengths,Wc,topZ,wSs,wS,wE,wEs,wI,wTs,wBin,CPowD,newL,newR,lim,spL_take,hb]
  intro d b d0 d4
  have hb2:=Vh (b:=b) hb
  have e:ixD 4 d=some d.toNat:=by simp [ixD,d0,d4]
  simp [wIdx,Zb,e]
  have hd:d.toNat < 4:=by omega
  have go:∀ t:Int,0 < t->t < 2 ^ 500->Yh (bx μ n b) n/\0 < m/\m < 2 ^ 500/\∀ (d b1:Int),0<=d->d < m->wRng 1 [.int (1 + d)] (bx (bx μ n b) n b1) fun ds g μ1=>Wy (fun d k=>bindC 1 false d [some (.loc n),some (.int t)] k) (fun ρ' μ' Q'=>Q' true μ') (fun ρ' μ' Q'=>wE (.call "_law_take" spL_take (.cons (.var 1) (.cons (.var 2) .nil))) ρ' μ' Q') g ds [] μ1 fun vs μ2=>Q (.lst vs) μ2:=by
   intro t t0 t1
   refine ⟨hb2,by omega,by omega,fun k b1 k0 k1=>⟨by simp only [lim]; omega,by omega,?_⟩⟩
   rw [Xb1]
   refine X4 (fun ds acc μ'=>∃ (ls:List Int) (b:Int),acc=ls.map D.int/\μ'=bx μ n b/\(∀ x∈ls,0<=x)/\((ls.length + ds.length:Nat):Int)=1 + k) ?_ ?_ _ _ _ ⟨[],b1,rfl,rfl,by simp,by simp [Zg]; omega⟩
   ·rintro d ds acc μ1 Y N hY hN ⟨ls,b,rfl,rfl,hp,hl⟩
    refine ⟨trivial,?_⟩
    simp [bindC,wE,wEs,spL_take,Vh hb,t0,Xb1]
    refine ⟨t1,fun v b' v0 v1=>?_⟩
    exact hY _ _ ⟨ls ++ [v],b',by simp,rfl,fun x hx=>by rcases List.mem_append.mp hx with hx | hx; exact hp x hx; simp at hx; omega,by simp at hl ⊢; omega⟩
   ·rintro acc μ1 ⟨ls,b,rfl,rfl,hp,hl⟩
    simp at hl
    exact ⟨trivial,h _ _ (by omega) (by omega) hp⟩
  generalize d.toNat=j at hd
  match j,hd with
  | 0,_=>exact go 4 (by decide) (by decide)
  | 1,_=>exact go 10 (by decide) (by decide)
  | 2,_=>exact go 100 (by decide) (by decide)
  | 3,_=>exact go 1000000 (by decide) (by decide)
 ·exact h.elim
def n_law:List Str:=["script","k","box","lengths","width","thing","odd","things","turn","some","kept"]
noncomputable def tlC:Ss:=(.cons (.set 10 (.blt "repr" (.cons (.var 9) .nil))) (.cons (.ite (.not (.call "_law_truth" spL_truth (.cons (.call "is_going" sp_is_going (.cons (.var 9) (.cons (.var 3) (.cons (.var 4) .nil)))) (.cons (.call "_law_is_going" spL_is_going (.cons (.var 9) (.cons (.var 3) (.cons (.var 4) .nil)))) .nil)))) (.cons (.ret (.cst (.bl false))) .nil) .nil) (.cons (.ite (.cmpS true (.blt "repr" (.cons (.var 9) .nil)) (.var 10)) (.cons (.ret (.cst (.bl false))) .nil) .nil) .nil)))
noncomputable def tlB:Ss:=(.cons (.for_ [9] false (.seq (.var 7)) tlC) .nil)
noncomputable def tlA:Ss:=(.cons (.for_ [8] false (.rng (.cons (.cst (.int 4)) .nil)) (.cons (.exp (.meth "append" (.var 7) (.cons (.call "_law_turned" spL_turned (.cons (.var 2) (.cons (.var 5) (.cons (.blt "len" (.cons (.var 3) .nil)) (.cons (.var 6) .nil))))) .nil))) .nil)) tlB)
noncomputable def i_law:Ss:=(.cons (.for_ [1] false (.rng (.cons (.blt "max" (.cons (.cst (.int 1)) (.cons (.blt "min" (.cons (.blt "len" (.cons (.var 0) .nil)) (.cons (.cst (.int 5)) .nil))) .nil))) .nil)) (.cons (.set 2 (.call "_law_box" spL_box (.cons (.var 0) (.cons (.var 1) .nil)))) (.cons (.set 3 (.call "_law_lengths" spL_lengths (.cons (.var 2) (.cons (.cst (.int 7)) .nil)))) (.cons (.set 4 (.bin .Add (.cst (.int 2)) (.call "_law_take" spL_take (.cons (.var 2) (.cons (.cst (.int 4)) .nil))))) (.cons (.set 5 (.call "_law_drawn" spL_drawn (.cons (.var 2) (.cons (.var 3) (.cons (.var 4) .nil))))) (.cons (.set 6 (.call "_law_odd" spL_odd (.cons (.var 2) .nil))) (.cons (.set 7 (.lst true (.cons (.var 5) (.cons (.var 6) (.cons (.lst false .nil) .nil))))) tlA))))))) (.cons (.ret (.cst (.bl true))) .nil))
theorem Ycj {μ μ':Mem} {t:D} (f:∀ k:Nat,μ[k]? = some (.dic [.inr [97]] [.int 1])->μ'[k]? = some (.dic [.inr [97]] [.int 1])) (h:Dr μ t):Dr μ' t:=h.imp id fun ⟨k,a,b⟩=>⟨k,f k a,b⟩
theorem tg2_dk {μ μ':Mem} {t:D} (f:∀ k:Nat,μ[k]? = some (.dic [.inr [97]] [.int 1])->μ'[k]? = some (.dic [.inr [97]] [.int 1])) (h:Tg2 μ t):Tg2 μ' t :=
 h.imp (Ycj f) fun ⟨ts,a,b,c⟩=>⟨ts,a,b,fun t ht=>(c t ht).imp (Ycj f) fun ⟨us,a,b,c⟩=>⟨us,a,b,fun t ht=>Ycj f (c t ht)⟩⟩
theorem dk_set {μ:Mem} {p:Nat} {xs:List D} {c:Cell} (hp:μ[p]? = some (.lst xs)):∀ k:Nat,μ[k]? = some (.dic [.inr [97]] [.int 1])->(μ.set p c)[k]? = some (.dic [.inr [97]] [.int 1]):=fun k hk=>by
 have:p≠k:=fun e=>by subst e; rw [hp] at hk; cases hk
 rw [List.getElem?_set_ne this]; exact hk
section
variable {N:Rho->Mem->Prop} {Z:DEnds} {μ:Mem} {n p w dn:Nat} {r0 r1 r2 r5 r6 r8 r9 r10:Option D} {ls:List Int} {ts:List D}
theorem walk_ok (hT:μ[0]? = some .tbl) (hp:μ[p]? = some (.lst ts)) (h2:∀ t∈ts,Tg2 μ t) (l1:1<=ls.length) (l2:ls.length<=60) (l0:∀ x∈ls,0<=x) (w1:2<=w) (w2:w<=8)
  (hZ:∀ ν r9 r10,Z.nx [r0,r1,r2,some (.lst (ls.map D.int)),some (.int (w:Int)),r5,r6,some (.loc p),r8,r9,r10] (μ ++ ν)) :
  wSs tlB Z [r0,r1,r2,some (.lst (ls.map D.int)),some (.int (w:Int)),r5,r6,some (.loc p),r8,r9,r10] μ:=by
 simp only [tlB,wSs,wS,wI,wE,wSeq,hp,List.getElem?_cons_zero,List.getElem?_cons_succ]
 refine Vi (fun ds ρ μ'=>(∀ d∈ds,d∈ts)/\(∃ ν,μ'=μ ++ ν)/\∃ r9 r10,ρ=[r0,r1,r2,some (.lst (ls.map D.int)),some (.int (w:Int)),r5,r6,some (.loc p),r8,r9,r10]) ?_ ?_ _ _ _ ⟨fun d hd=>hd,⟨[],by simp⟩,r9,r10,rfl⟩
 ·rintro d ds ρ μ1 N hN ⟨hd,⟨ν,rfl⟩,r9,r10,rfl⟩
  have hpν:∀ ν,(μ ++ ν)[p]? = some (.lst ts):=fun ν=>by rw [List.getElem?_append_left (Yc hp)]; exact hp
  refine ⟨hpν ν,?_⟩
  have hg:=h2 d (hd d (by simp))
  obtain ⟨s,hs⟩:=tg2_rpr hg
  have gd:∀ ν,good (μ ++ ν) d=true:=fun ν=>W3 ν d (Ya2 hg)
  have sm:=Ybk hg
  simp only [Zq,tlC,wSs,wS,wE,wEs,wBlt,List.set_cons_zero,List.set_cons_succ,List.getElem?_cons_zero,List.getElem?_cons_succ]
  refine hs ν _ ?_
  simp only [wT,wE,wEs,List.set_cons_zero,List.set_cons_succ,List.getElem?_cons_zero,List.getElem?_cons_succ]
  refine ⟨d,ls,w,rfl,gd ν,sm,l1,l2,w1,w2,fun ν2=>?_⟩
  refine ⟨d,ls,w,rfl,by rw [List.append_assoc]; exact gd _,sm,l1,l2,w1,w2,l0,fun ν3=>?_⟩
  simp only [spL_truth,beq_self_eq_true,wTru,truth,Bool.not_true,Bool.false_eq_true,if_false]
  rw [List.append_assoc,List.append_assoc]
  have er:∀ (μ:Mem) (Q:QD),wBlt "repr" [d] μ Q=wRpr d μ Q:=fun μ Q=>by simp only [wBlt]
  rw [er]
  refine hs _ _ ?_
  refine ⟨rfl,rfl,?_⟩
  simp only [wBl,Bool.not_true,Bool.false_eq_true,if_false]
  exact hN _ _ ⟨fun d hd'=>hd d (by simp [hd']),⟨_,rfl⟩,_,_,rfl⟩
 ·rintro ρ μ1 ⟨-,⟨ν,rfl⟩,r9,r10,rfl⟩
  exact ⟨by rw [List.getElem?_append_left (Yc hp)]; exact hp,hZ ν r9 r10⟩
theorem turn_ok {T:List D} {od:D} (pn:p≠n) (hb:Yh μ n) (hT:μ[0]? = some .tbl) (hd:μ[dn]? = some (.dic [.inr [97]] [.int 1])) (ho:od∈odds dn) (hTr:Tr μ T) (hp:μ[p]? = some (.lst ts)) (h2:∀ t∈ts,Tg2 μ t) (hl:ts.length<=3) (l1:1<=ls.length) (l2:ls.length<=7) (l0:∀ x∈ls,0<=x) (w1:2<=w) (w2:w<=8)
  (hZ:∀ ρ μ',μ'[0]? = some .tbl->(∃ a b c d e f g h i j,ρ=[r0,a,b,c,d,e,f,g,h,i,j])->Z.nx ρ μ') :
  wSs tlA Z [r0,r1,some (.loc n),some (.lst (ls.map D.int)),some (.int (w:Int)),some (.lst T),some od,some (.loc p),r8,r9,r10] μ:=by
 have key:∀ {μ:Mem} {ts:List D} {r8 r9 r10:Option D},μ[0]? = some .tbl->μ[p]? = some (.lst ts)->(∀ t∈ts,Tg2 μ t)->wSs tlB Z [r0,r1,some (.loc n),some (.lst (ls.map D.int)),some (.int (w:Int)),some (.lst T),some od,some (.loc p),r8,r9,r10] μ :=
  fun hT hp h2=>walk_ok hT hp h2 l1 (by omega) l0 w1 w2 fun ν r9 r10=>hZ _ _ (by rw [List.getElem?_append_left (Yc hT)]; exact hT) ⟨_,_,_,_,_,_,_,_,_,_,rfl⟩
 simp only [tlA]
 generalize tlB=G at key
 simp only [wSs,wS,wI,wE,wEs,Yap,wRng,List.getElem?_cons_zero,List.getElem?_cons_succ]
 refine ⟨by decide,by decide,?_⟩
 refine Vi (fun ds ρ μ'=>∃ ts r8,ts.length + ds.length<=7/\Yh μ' n/\μ'[0]? = some .tbl/\μ'[dn]? = some (.dic [.inr [97]] [.int 1])/\Tr μ' T/\μ'[p]? = some (.lst ts)/\(∀ t∈ts,Tg2 μ' t)/\ρ=[r0,r1,some (.loc n),some (.lst (ls.map D.int)),some (.int (w:Int)),some (.lst T),some od,some (.loc p),r8,r9,r10]) ?_ ?_ _ _ _ ⟨ts,r8,by simp [Zg]; omega,hb,hT,hd,hTr,hp,h2,rfl⟩
 ·rintro d ds ρ μ1 N hN ⟨ts,r8,hl,hb,hT,hd,hTr,hp,h2,rfl⟩
  refine ⟨trivial,?_⟩
  simp only [List.length_cons] at hl
  simp only [Zq,wSs,wS,wE,wEs,wBlt,lenOf,Zb,Option.map_some,List.length_map,List.set_cons_zero,List.set_cons_succ,List.getElem?_cons_zero,List.getElem?_cons_succ]
  refine ⟨by simp [isCell,hp],n,dn,ls.length,T,od,rfl,hb,hd,ho,l1,by omega,hTr,fun d b hd2=>?_⟩
  have hp2:(bx μ1 n b)[p]? = some (.lst ts):=Ym pn hp
  have hT2:(bx μ1 n b)[0]? = some .tbl:=Ym (fun e=>by obtain ⟨c,hc⟩:=hb; rw [<- e,hT] at hc; cases hc) hT
  have fb:∀ k:Nat,μ1[k]? = some (.dic [.inr [97]] [.int 1])->(bx μ1 n b)[k]? = some (.dic [.inr [97]] [.int 1]):=fun k hk=>Ym (fun e=>by obtain ⟨c,hc⟩:=hb; rw [<- e,hk] at hc; cases hc) hk
  have hb2:=Vh (b:=b) hb
  have fs:=dk_set (c:=.lst (ts ++ [d])) hp2
  refine DW.TRC.wMeth_loc hp2 ?_
  simp only [Wj]
  refine ⟨by simp only [lim]; omega,hN _ _ ⟨ts ++ [d],_,by simp; omega,?_,?_,fs _ (fb _ hd),?_,List.getElem?_set_self (Yc hp2),?_,rfl⟩⟩
  ·obtain ⟨c,hc⟩:=hb2
   exact ⟨c,by rw [List.getElem?_set_ne pn]; exact hc⟩
  ·rw [List.getElem?_set_ne (fun e=>by rw [e,hT2] at hp2; cases hp2)]; exact hT2
  ·refine ⟨hTr.1,fun t ht=>?_⟩
   obtain ⟨o,e,h1,h3⟩:=hTr.2 t ht
   exact ⟨o,e,h1,fun t ht=>Ycj (fun k hk=>fs k (fb k hk)) (h3 t ht)⟩
  ·intro t ht
   rcases List.mem_append.mp ht with ht | ht
   ·exact tg2_dk (fun k hk=>fs k (fb k hk)) (h2 t ht)
   ·simp at ht; subst ht
    exact tg2_dk fs hd2
 ·rintro ρ μ1 ⟨ts,r8,hl,hb,hT,hd,hTr,hp,h2,rfl⟩
  exact ⟨trivial,key hT hp h2⟩
end
theorem Zb7 {μ:Mem} {fs:List (List Nat)} (h1:fs.length<=7) (h2:∀ f∈fs,f.length<=7/\∀ k∈f,k < 64):Tr μ (fs.map tpN):=by
 refine ⟨by simp; omega,fun t ht=>?_⟩
 obtain ⟨f,hf,rfl⟩:=List.mem_map.mp ht
 obtain ⟨a,b⟩:=h2 f hf
 exact ⟨f.map natD,rfl,by simp; omega,fun t ht=>by
  obtain ⟨k,hk,rfl⟩:=List.mem_map.mp ht
  exact .inl ⟨k,b k hk,rfl⟩⟩
theorem k_law:Keeps n_law i_law spLawT:=by
 rintro ds μ Q ⟨ns,rfl,hl,hT,h⟩
 have hlo:(ns.length:Int)<=63:=by omega
 have key:∀ {Z:DEnds} {μ:Mem} {n p w dn:Nat} {r1 r8 r9 r10:Option D} {ls:List Int} {ts:List D} {T:List D} {od:D},p≠n->Yh μ n->μ[0]? = some .tbl->μ[dn]? = some (.dic [.inr [97]] [.int 1])->od∈odds dn->Tr μ T->μ[p]? = some (.lst ts)->(∀ t∈ts,Tg2 μ t)->ts.length<=3->1<=ls.length->ls.length<=7->(∀ x∈ls,0<=x)->2<=w->w<=8 ->
   (∀ ρ μ',μ'[0]? = some .tbl->(∃ a b c d e f g h i j,ρ=[some (.ro (ns.map D.int)),a,b,c,d,e,f,g,h,i,j])->Z.nx ρ μ') ->
   wSs tlA Z [some (.ro (ns.map D.int)),r1,some (.loc n),some (.lst (ls.map D.int)),some (.int (w:Int)),some (.lst T),some od,some (.loc p),r8,r9,r10] μ :=
  fun pn hb hT hd ho hTr hp h2 hl l1 l2 l0 w1 w2 hZ=>turn_ok pn hb hT hd ho hTr hp h2 hl l1 l2 l0 w1 w2 hZ
 simp only [i_law]
 generalize tlA=G at key
 simp only [n_law,Wc,topZ,wSs,wS,wE,wEs,wI,newL,newR,wSeq,wBlt,lenOf,Zb,wRng,Yap,List.map_cons,List.map_nil,List.length_cons,List.length_nil,List.cons_append,List.nil_append,List.getElem?_cons_zero,List.length_map,Option.map_some]
 refine ⟨?_,?_,?_⟩
 ·simp only [lim]; split <;> split <;> omega
 ·split <;> split <;> omega
 refine Vi (fun ds ρ μ'=>(∀ d∈ds,∃ i:Int,d = .int i/\0<=i)/\μ'[0]? = some .tbl/\∃ a b c d e f g h i j,ρ=[some (.ro (ns.map D.int)),a,b,c,d,e,f,g,h,i,j]) ?_ ?_ _ _ _ ⟨?_,hT,none,none,none,none,none,none,none,none,none,none,rfl⟩
 ·rintro d ds ρ μ1 N hN ⟨hd,hT1,a,b,c,e,f,g,i,j,k',l',rfl⟩
  obtain ⟨k,rfl,k0⟩:=hd d (by simp)
  have hlast:∀ ρ μ',μ'[0]? = some .tbl->(∃ a b c d e f g h i j,ρ=[some (.ro (ns.map D.int)),a,b,c,d,e,f,g,h,i,j])->N ρ μ':=fun ρ μ' q1 q2=>hN _ _ ⟨fun d hd'=>hd d (by simp [hd']),q1,q2⟩
  refine ⟨trivial,?_⟩
  simp only [Zq,List.set_cons_zero,List.set_cons_succ,List.getElem?_cons_zero,List.getElem?_cons_succ,wSs,wS,wE,wEs]
  refine ⟨ns,rfl,by omega,k0,fun b0=>?_⟩
  simp only [List.set_cons_zero,List.set_cons_succ,List.getElem?_cons_zero,List.getElem?_cons_succ]
  have hb:Yh (μ1 ++ [Cell.lst [D.int b0]]) μ1.length:=Zbu
  have hT2:(μ1 ++ [Cell.lst [D.int b0]])[0]? = some .tbl:=by rw [List.getElem?_append_left (Yc hT1)]; exact hT1
  generalize μ1 ++ [Cell.lst [D.int b0]]=μ2 at hb hT2
  generalize μ1.length=n at hb
  have tb:∀ {μ:Mem} {b:Int},Yh μ n->μ[0]? = some .tbl->(bx μ n b)[0]? = some .tbl:=fun hb hT=>Ym (fun e=>by obtain ⟨c,hc⟩:=hb; rw [<- e,hT] at hc; cases hc) hT
  refine ⟨hb,by decide,by decide,fun ls b1 l1 l2 l0=>?_⟩
  replace hT2:=tb (b:=b1) hb hT2
  replace hb:=Vh (b:=b1) hb
  generalize bx μ2 n b1=μ3 at hb hT2
  refine ⟨hb,by decide,by decide,fun w' b2 w0 w4=>?_⟩
  replace hT2:=tb (b:=b2) hb hT2
  replace hb:=Vh (b:=b2) hb
  generalize bx μ3 n b2=μ4 at hb hT2
  obtain ⟨w,ew,w1,w2⟩:∃ w:Nat,2 + w'=(w:Int)/\2<=w/\w<=5:=⟨(2 + w').toNat,by omega,by omega,by omega⟩
  simp only [wBin,List.set_cons_zero,List.set_cons_succ,List.getElem?_cons_zero,List.getElem?_cons_succ]
  rw [ew]
  refine ⟨n,ls,w,rfl,hb,⟨0,hT2⟩,l1,by omega,w1,by omega,fun fs μ5 f1 f2 up=>?_⟩
  have hT5:μ5[0]? = some .tbl:=up.get 0 _ (fun e=>by obtain ⟨c,hc⟩:=hb; rw [<- e,hT2] at hc; cases hc) hT2
  have hb5:=up.bx
  clear up hb hT2
  simp only [List.set_cons_zero,List.set_cons_succ,List.getElem?_cons_zero,List.getElem?_cons_succ]
  refine ⟨hb5,fun od b6 ho=>?_⟩
  refine ⟨by decide,by decide,?_⟩
  have hd6:(bx (μ5 ++ [Cell.dic [.inr [97]] [.int 1]]) n b6)[μ5.length]? = some (.dic [.inr [97]] [.int 1]):=Ym (by have:=Wb1 hb5; omega) (by simp)
  have hb6:Yh (bx (μ5 ++ [Cell.dic [.inr [97]] [.int 1]]) n b6) n:=Vh (W6 hb5)
  have hT6:(bx (μ5 ++ [Cell.dic [.inr [97]] [.int 1]]) n b6)[0]? = some .tbl:=tb (W6 hb5) (by rw [List.getElem?_append_left (Yc hT5)]; exact hT5)
  generalize bx (μ5 ++ [Cell.dic [.inr [97]] [.int 1]]) n b6=μ6 at hd6 hb6 hT6
  generalize μ5.length=dn at hd6 ho
  have hd7:(μ6 ++ [Cell.lst [D.lst (fs.map tpN),od,D.lst []]])[dn]? = some (.dic [.inr [97]] [.int 1]):=by rw [List.getElem?_append_left (Yc hd6)]; exact hd6
  have hTr:Tr (μ6 ++ [Cell.lst [D.lst (fs.map tpN),od,D.lst []]]) (fs.map tpN):=Zb7 f1 f2
  refine key (ts:=[D.lst (fs.map tpN),od,D.lst []]) (by have:=Wb1 hb6; omega) (W6 hb6) (by rw [List.getElem?_append_left (Yc hT6)]; exact hT6) hd7 ho hTr (by simp) ?_ (by simp) l1 (by omega) l0 w1 (by omega) hlast
  intro t ht
  simp only [List.mem_cons,List.not_mem_nil,or_false] at ht
  rcases ht with rfl | rfl | rfl
  ·exact Zbk (fun t ht=>hTr.tg ht) (by have:=hTr.1; omega)
  ·exact .inl (.inr ⟨dn,hd7,ho⟩)
  ·exact .inl (.inr ⟨dn,hd7,by simp [odds]⟩)
 ·rintro ρ μ1 ⟨-,hT1,a,b,c,e,f,g,i,j,k',l',rfl⟩
  exact ⟨trivial,h _⟩
 ·intro d hd
  obtain ⟨i,rfl,h0,h1⟩:=Zbb hd
  exact ⟨i,rfl,by omega⟩
end DW.K42
end
namespace DW.K42
open PySem L2 DW DW.K03 DW.GOI
noncomputable def top (i:Nat):Stmt:=PySem.Challenge.pw_pourwright_k42_goings_looked_at.main.body.getD i (.Pass ⟨0,0,0,0⟩)
noncomputable def blts:List Str:=["isinstance","int","bool","list","dict","enumerate","len","tuple","all","set","max","any","abs","range","divmod","sum","sorted","min","repr"]
noncomputable abbrev s_is_whole:Stmt:=top 4
noncomputable def p_is_whole:List Str:=["thing"]
theorem Zat:FnScope n_is_whole p_is_whole (Xa s_is_whole):=⟨rfl,rfl,rfl,by decide +kernel,rfl,by decide +kernel,by decide +kernel⟩
theorem Wbc:mSs (Ctx.of n_is_whole (Xa s_is_whole).names blts) i_is_whole (Vb s_is_whole)=true:=by decide +kernel
theorem Xa0:∀ ds μ Q,sp_is_whole ds μ Q->ds.length=p_is_whole.length:=by
 intro ds μ Q h
 unfold sp_is_whole at h
 split at h <;> first | rfl | exact h.elim
noncomputable abbrev s_first_size:Stmt:=top 10
noncomputable def p_first_size:List Str:=["many","width"]
theorem Xag:FnScope n_first_size p_first_size (Xa s_first_size):=⟨rfl,rfl,rfl,by decide +kernel,rfl,by decide +kernel,by decide +kernel⟩
theorem Yan:mSs (Ctx.of n_first_size (Xa s_first_size).names blts) i_first_size (Vb s_first_size)=true:=by decide +kernel
theorem Yaj:∀ ds μ Q,sp_first_size ds μ Q->ds.length=p_first_size.length:=by
 intro ds μ Q h
 unfold sp_first_size at h
 obtain ⟨_,_,rfl,_⟩:=h; rfl
noncomputable abbrev s_pour_things:Stmt:=top 11
noncomputable def p_pour_things:List Str:=["there","taken","number"]
theorem Y9:FnScope n_pour_things p_pour_things (Xa s_pour_things):=⟨rfl,rfl,rfl,by decide +kernel,rfl,by decide +kernel,by decide +kernel⟩
theorem Vag:mSs (Ctx.of n_pour_things (Xa s_pour_things).names blts) i_pour_things (Vb s_pour_things)=true:=by decide +kernel
theorem Xaa:∀ ds μ Q,sp_pour_things ds μ Q->ds.length=p_pour_things.length:=by
 intro ds μ Q h
 unfold sp_pour_things at h
 obtain ⟨_,_,_,_,rfl,_⟩:=h; rfl
noncomputable abbrev s_leaves_shorter:Stmt:=top 14
noncomputable def p_leaves_shorter:List Str:=["taken","there"]
theorem Vy:FnScope n_leaves_shorter p_leaves_shorter (Xa s_leaves_shorter):=⟨rfl,rfl,rfl,by decide +kernel,rfl,by decide +kernel,by decide +kernel⟩
theorem V1:mSs (Ctx.of n_leaves_shorter (Xa s_leaves_shorter).names blts) i_leaves_shorter (Vb s_leaves_shorter)=true:=by decide +kernel
theorem Vz:∀ ds μ Q,sp_leaves_shorter ds μ Q->ds.length=p_leaves_shorter.length:=by
 intro ds μ Q h
 unfold sp_leaves_shorter at h
 obtain ⟨_,_,_,rfl,_⟩:=h; rfl
noncomputable abbrev sL_cell:Stmt:=top 16
noncomputable def pL_cell:List Str:=["script","k"]
theorem Wb8:FnScope nL_cell pL_cell (Xa sL_cell):=⟨rfl,rfl,rfl,by decide +kernel,rfl,by decide +kernel,by decide +kernel⟩
theorem mL_cell:mSs (Ctx.of nL_cell (Xa sL_cell).names blts) iL_cell (Vb sL_cell)=true:=by decide +kernel
theorem Xcl:∀ ds μ Q,spL_cell ds μ Q->ds.length=pL_cell.length:=by
 intro ds μ Q h
 unfold spL_cell at h
 split at h <;> first | rfl | exact h.elim
noncomputable abbrev sL_mix:Stmt:=top 17
noncomputable def pL_mix:List Str:=["cell","k"]
theorem scL_mix:FnScope nL_mix pL_mix (Xa sL_mix):=⟨rfl,rfl,rfl,by decide +kernel,rfl,by decide +kernel,by decide +kernel⟩
theorem mL_mix:mSs (Ctx.of nL_mix (Xa sL_mix).names blts) iL_mix (Vb sL_mix)=true:=by decide +kernel
theorem arL_mix:∀ ds μ Q,spL_mix ds μ Q->ds.length=pL_mix.length:=by
 intro ds μ Q h
 unfold spL_mix at h
 split at h <;> first | rfl | exact h.elim
noncomputable abbrev sL_take:Stmt:=top 19
noncomputable def pL_take:List Str:=["box","many"]
theorem Xb8:FnScope nL_take pL_take (Xa sL_take):=⟨rfl,rfl,rfl,by decide +kernel,rfl,by decide +kernel,by decide +kernel⟩
theorem mL_take:mSs (Ctx.of nL_take (Xa sL_take).names blts) iL_take (Vb sL_take)=true:=by decide +kernel
theorem Ycl:∀ ds μ Q,spL_take ds μ Q->ds.length=pL_take.length:=by
 intro ds μ Q h
 unfold spL_take at h
 split at h <;> first | rfl | exact h.elim
noncomputable abbrev sL_whole:Stmt:=top 20
noncomputable def pL_whole:List Str:=["thing"]
theorem Vbl:FnScope nL_whole pL_whole (Xa sL_whole):=⟨rfl,rfl,rfl,by decide +kernel,rfl,by decide +kernel,by decide +kernel⟩
theorem Xcf:mSs (Ctx.of nL_whole (Xa sL_whole).names blts) iL_whole (Vb sL_whole)=true:=by decide +kernel
theorem Zb3:∀ ds μ Q,spL_whole ds μ Q->ds.length=pL_whole.length:=by
 intro ds μ Q h
 unfold spL_whole at h
 split at h <;> first | rfl | exact h.elim
noncomputable abbrev sL_truth:Stmt:=top 22
noncomputable def pL_truth:List Str:=["found","due"]
theorem Zbm:FnScope nL_truth pL_truth (Xa sL_truth):=⟨rfl,rfl,rfl,by decide +kernel,rfl,by decide +kernel,by decide +kernel⟩
theorem Wcf:mSs (Ctx.of nL_truth (Xa sL_truth).names blts) iL_truth (Vb sL_truth)=true:=by decide +kernel
theorem Yb3:∀ ds μ Q,spL_truth ds μ Q->ds.length=pL_truth.length:=by
 intro ds μ Q h
 unfold spL_truth at h
 split at h <;> first | rfl | exact h.elim
noncomputable abbrev sL_first_take:Stmt:=top 24
noncomputable def pL_first_take:List Str:=["many","width"]
theorem V9:FnScope nL_first_take pL_first_take (Xa sL_first_take):=⟨rfl,rfl,rfl,by decide +kernel,rfl,by decide +kernel,by decide +kernel⟩
theorem Yah:mSs (Ctx.of nL_first_take (Xa sL_first_take).names blts) iL_first_take (Vb sL_first_take)=true:=by decide +kernel
theorem Vaa:∀ ds μ Q,spL_first_take ds μ Q->ds.length=pL_first_take.length:=by
 intro ds μ Q h
 unfold spL_first_take at h
 obtain ⟨_,_,rfl,_⟩:=h; rfl
noncomputable abbrev s_check_width:Stmt:=top 8
noncomputable def p_check_width:List Str:=["thing"]
theorem W9:FnScope n_check_width p_check_width (Xa s_check_width):=⟨rfl,rfl,rfl,by decide +kernel,rfl,by decide +kernel,by decide +kernel⟩
theorem Zah:mSs (Ctx.of n_check_width (Xa s_check_width).names blts) i_check_width (Vb s_check_width)=true:=by decide +kernel
theorem Waa:∀ ds μ Q,sp_check_width ds μ Q->ds.length=p_check_width.length:=by
 intro ds μ Q h
 unfold sp_check_width at h
 obtain ⟨_,rfl,_⟩:=h; rfl
noncomputable abbrev s_are_unlike_things:Stmt:=top 13
noncomputable def p_are_unlike_things:List Str:=["thing","there","size"]
theorem Vs:FnScope n_are_unlike_things p_are_unlike_things (Xa s_are_unlike_things):=⟨rfl,rfl,rfl,by decide +kernel,rfl,by decide +kernel,by decide +kernel⟩
theorem Zv:mSs (Ctx.of n_are_unlike_things (Xa s_are_unlike_things).names blts) i_are_unlike_things (Vb s_are_unlike_things)=true:=by decide +kernel
theorem Wt:∀ ds μ Q,sp_are_unlike_things ds μ Q->ds.length=p_are_unlike_things.length:=by
 intro ds μ Q h
 unfold sp_are_unlike_things at h
 obtain ⟨_,_,_,_,rfl,_⟩:=h; rfl
noncomputable abbrev sL_box:Stmt:=top 18
noncomputable def pL_box:List Str:=["script","k"]
theorem scL_box:FnScope nL_box pL_box (Xa sL_box):=⟨rfl,rfl,rfl,by decide +kernel,rfl,by decide +kernel,by decide +kernel⟩
theorem mL_box:mSs (Ctx.of nL_box (Xa sL_box).names blts) iL_box (Vb sL_box)=true:=by decide +kernel
theorem arL_box:∀ ds μ Q,spL_box ds μ Q->ds.length=pL_box.length:=by
 intro ds μ Q h
 unfold spL_box at h
 split at h <;> first | rfl | exact h.elim
noncomputable abbrev sL_odd:Stmt:=top 21
noncomputable def pL_odd:List Str:=["box"]
theorem scL_odd:FnScope nL_odd pL_odd (Xa sL_odd):=⟨rfl,rfl,rfl,by decide +kernel,rfl,by decide +kernel,by decide +kernel⟩
theorem mL_odd:mSs (Ctx.of nL_odd (Xa sL_odd).names blts) iL_odd (Vb sL_odd)=true:=by decide +kernel
theorem arL_odd:∀ ds μ Q,spL_odd ds μ Q->ds.length=pL_odd.length:=by
 intro ds μ Q h
 unfold spL_odd at h
 split at h <;> first | rfl | exact h.elim
noncomputable abbrev sL_lengths:Stmt:=top 23
noncomputable def pL_lengths:List Str:=["box","most"]
theorem Xat:FnScope nL_lengths pL_lengths (Xa sL_lengths):=⟨rfl,rfl,rfl,by decide +kernel,rfl,by decide +kernel,by decide +kernel⟩
theorem Zbd:mSs (Ctx.of nL_lengths (Xa sL_lengths).names blts) iL_lengths (Vb sL_lengths)=true:=by decide +kernel
theorem Va0:∀ ds μ Q,spL_lengths ds μ Q->ds.length=pL_lengths.length:=by
 intro ds μ Q h
 unfold spL_lengths at h
 split at h <;> first | rfl | exact h.elim
noncomputable abbrev sL_is_going:Stmt:=top 25
noncomputable def pL_is_going:List Str:=["thing","lengths","width"]
theorem Wal:FnScope nL_is_going pL_is_going (Xa sL_is_going):=⟨rfl,rfl,rfl,by decide +kernel,rfl,by decide +kernel,by decide +kernel⟩
theorem Wav:mSs (Ctx.of nL_is_going (Xa sL_is_going).names blts) iL_is_going (Vb sL_is_going)=true:=by decide +kernel
theorem War:∀ ds μ Q,spL_is_going ds μ Q->ds.length=pL_is_going.length:=by
 intro ds μ Q h
 unfold spL_is_going at h
 obtain ⟨_,_,_,rfl,_⟩:=h; rfl
noncomputable abbrev sL_drawn:Stmt:=top 26
noncomputable def pL_drawn:List Str:=["box","lengths","width"]
theorem Ybm:FnScope nL_drawn pL_drawn (Xa sL_drawn):=⟨rfl,rfl,rfl,by decide +kernel,rfl,by decide +kernel,by decide +kernel⟩
theorem Vcf:mSs (Ctx.of nL_drawn (Xa sL_drawn).names blts) iL_drawn (Vb sL_drawn)=true:=by decide +kernel
theorem Xb3:∀ ds μ Q,spL_drawn ds μ Q->ds.length=pL_drawn.length:=by
 intro ds μ Q h
 unfold spL_drawn at h
 obtain ⟨_,_,_,rfl,_⟩:=h; rfl
noncomputable abbrev sL_turned:Stmt:=top 27
noncomputable def pL_turned:List Str:=["box","thing","many","odd"]
theorem Xba:FnScope nL_turned pL_turned (Xa sL_turned):=⟨rfl,rfl,rfl,by decide +kernel,rfl,by decide +kernel,by decide +kernel⟩
theorem Wbq:mSs (Ctx.of nL_turned (Xa sL_turned).names blts) iL_turned (Vb sL_turned)=true:=by decide +kernel
theorem Ybg:∀ ds μ Q,spL_turned ds μ Q->ds.length=pL_turned.length:=by
 intro ds μ Q h
 unfold spL_turned at h
 obtain ⟨_,_,_,_,_,rfl,_⟩:=h; rfl
noncomputable abbrev s_is_going:Stmt:=top 12
noncomputable def p_is_going:List Str:=["thing","lengths","width"]
theorem Yat:FnScope n_is_going p_is_going (Xa s_is_going):=⟨rfl,rfl,rfl,by decide +kernel,rfl,by decide +kernel,by decide +kernel⟩
theorem Vbc:mSs (Ctx.of n_is_going (Xa s_is_going).names blts) i_is_going (Vb s_is_going)=true:=by decide +kernel
theorem Wa0:∀ ds μ Q,sp_is_going ds μ Q->ds.length=p_is_going.length:=by
 intro ds μ Q h
 unfold sp_is_going at h
 obtain ⟨_,_,_,rfl,_⟩:=h; rfl
noncomputable abbrev s_law:Stmt:=top 28
noncomputable def p_law:List Str:=["script"]
theorem sc_law:FnScope n_law p_law (Xa s_law):=⟨rfl,rfl,rfl,by decide +kernel,rfl,by decide +kernel,by decide +kernel⟩
theorem m_law:mSs (Ctx.of n_law (Xa s_law).names blts) i_law (Vb s_law)=true:=by decide +kernel
theorem ar_law:∀ ds μ Q,spLawT ds μ Q->ds.length=p_law.length:=by
 intro ds μ Q h
 unfold spLawT at h
 obtain ⟨_,rfl,_⟩:=h; rfl
set_option maxHeartbeats 0 in
theorem law_fn {T:Top} {h:Heap} {f:Addr} {fd:FuncData} {t_LEAST_WIDTH:Tok} {t_MOST_WIDTH:Tok} (X:T.K.In h) (G:h.Ns mainGlobals T.mg) (fr:FreeAt T.K blts) (c_LEAST_WIDTH:PySem.W.nsIn T.K mainGlobals "LEAST_WIDTH" = some (some (.int 2 t_LEAST_WIDTH))) (c_MOST_WIDTH:PySem.W.nsIn T.K mainGlobals "MOST_WIDTH" = some (some (.int 8 t_MOST_WIDTH))) (lam:LamAt T) (d_is_whole:DefAt T.K "is_whole" s_is_whole) (d_first_size:DefAt T.K "first_size" s_first_size) (d_pour_things:DefAt T.K "pour_things" s_pour_things) (d_leaves_shorter:DefAt T.K "leaves_shorter" s_leaves_shorter) (dL_cell:DefAt T.K "_law_cell" sL_cell) (dL_mix:DefAt T.K "_law_mix" sL_mix) (dL_take:DefAt T.K "_law_take" sL_take) (dL_whole:DefAt T.K "_law_whole" sL_whole) (dL_truth:DefAt T.K "_law_truth" sL_truth) (dL_first_take:DefAt T.K "_law_first_take" sL_first_take) (d_check_width:DefAt T.K "check_width" s_check_width) (d_are_unlike_things:DefAt T.K "are_unlike_things" s_are_unlike_things) (dL_box:DefAt T.K "_law_box" sL_box) (dL_odd:DefAt T.K "_law_odd" sL_odd) (dL_lengths:DefAt T.K "_law_lengths" sL_lengths) (dL_is_going:DefAt T.K "_law_is_going" sL_is_going) (dL_drawn:DefAt T.K "_law_drawn" sL_drawn) (dL_turned:DefAt T.K "_law_turned" sL_turned) (d_is_going:DefAt T.K "is_going" s_is_going) (F:Fun T.K "law" "law" s_law f fd):FnOk T.P T.w T.K T.mg T.base (CXE T.P T.w) 20 f fd p_law (low T.K spLawT):=by
 have hb:=Vbu X G fr
 have g_LEAST_WIDTH:Wd T "LEAST_WIDTH" (.int 2):=Xbu (PySem.W.mg_of X G c_LEAST_WIDTH)
 have g_MOST_WIDTH:Wd T "MOST_WIDTH" (.int 8):=Xbu (PySem.W.mg_of X G c_MOST_WIDTH)
 have o_is_whole:okSs (FnTop T 0) (Wd T) i_is_whole:=by
  repeat' first | exact trivial | refine And.intro ?_ ?_ | assumption | exact rfl | exact fun z=>absurd z (by decide)
 have u_is_whole:=Xn d_is_whole X G Zat Wbc hb (fun _ _ _ _ _ _=>len1 fun _=>rfl) Xa0 k_is_whole o_is_whole
 have o_first_size:okSs (FnTop T 0) (Wd T) i_first_size:=by
  repeat' first | exact trivial | refine And.intro ?_ ?_ | assumption | exact rfl | exact fun z=>absurd z (by decide)
 have u_first_size:=Xn d_first_size X G Xag Yan hb (fun _ _ _ _ _ _=>len2 fun _ _=>rfl) Yaj k_first_size o_first_size
 have o_pour_things:okSs (FnTop T 0) (Wd T) i_pour_things:=by
  repeat' first | exact trivial | refine And.intro ?_ ?_ | assumption | exact rfl | exact fun z=>absurd z (by decide)
 have u_pour_things:=Xn d_pour_things X G Y9 Vag hb (fun _ _ _ _ _ _=>len3 fun _ _ _=>rfl) Xaa k_pour_things o_pour_things
 have o_leaves_shorter:okSs (FnTop T 0) (Wd T) i_leaves_shorter:=by
  repeat' first | exact trivial | refine And.intro ?_ ?_ | assumption | exact rfl | exact fun z=>absurd z (by decide)
 have u_leaves_shorter:=Xn d_leaves_shorter X G Vy V1 hb (fun _ _ _ _ _ _=>len2 fun _ _=>rfl) Vz k_leaves_shorter o_leaves_shorter
 have oL_cell:okSs (FnTop T 0) (Wd T) iL_cell:=by
  repeat' first | exact trivial | refine And.intro ?_ ?_ | assumption | exact rfl | exact fun z=>absurd z (by decide)
 have uL_cell:=Xn dL_cell X G Wb8 mL_cell hb (fun _ _ _ _ _ _=>len2 fun _ _=>rfl) Xcl kL_cell oL_cell
 have oL_mix:okSs (FnTop T 0) (Wd T) iL_mix:=by
  repeat' first | exact trivial | refine And.intro ?_ ?_ | assumption | exact rfl | exact fun z=>absurd z (by decide)
 have uL_mix:=Xn dL_mix X G scL_mix mL_mix hb (fun _ _ _ _ _ _=>len2 fun _ _=>rfl) arL_mix kL_mix oL_mix
 have oL_take:okSs (FnTop T 0) (Wd T) iL_take:=by
  repeat' first | exact trivial | refine And.intro ?_ ?_ | assumption | exact rfl | exact fun z=>absurd z (by decide)
 have uL_take:=Xn dL_take X G Xb8 mL_take hb (fun _ _ _ _ _ _=>len2 fun _ _=>rfl) Ycl kL_take oL_take
 have oL_whole:okSs (FnTop T 0) (Wd T) iL_whole:=by
  repeat' first | exact trivial | refine And.intro ?_ ?_ | assumption | exact rfl | exact fun z=>absurd z (by decide)
 have uL_whole:=Xn dL_whole X G Vbl Xcf hb (fun _ _ _ _ _ _=>len1 fun _=>rfl) Zb3 kL_whole oL_whole
 have oL_truth:okSs (FnTop T 0) (Wd T) iL_truth:=by
  repeat' first | exact trivial | refine And.intro ?_ ?_ | assumption | exact rfl | exact fun z=>absurd z (by decide)
 have uL_truth:=Xn dL_truth X G Zbm Wcf hb (fun _ _ _ _ _ _=>len2 fun _ _=>rfl) Yb3 kL_truth oL_truth
 have oL_first_take:okSs (FnTop T 0) (Wd T) iL_first_take:=by
  repeat' first | exact trivial | refine And.intro ?_ ?_ | assumption | exact rfl | exact fun z=>absurd z (by decide)
 have uL_first_take:=Xn dL_first_take X G V9 Yah hb (fun _ _ _ _ _ _=>len2 fun _ _=>rfl) Vaa kL_first_take oL_first_take
 have u_is_whole_check_width:=u_is_whole.up (show 1<=1 by decide)
 have o_check_width:okSs (FnTop T 1) (Wd T) i_check_width:=by
  repeat' first | exact trivial | refine And.intro ?_ ?_ | assumption | exact rfl | exact fun z=>absurd z (by decide)
 have u_check_width:=Xn d_check_width X G W9 Zah hb (fun _ _ _ _ _ _=>len1 fun _=>rfl) Waa k_check_width o_check_width
 have u_is_whole_are_unlike_things:=u_is_whole.up (show 1<=1 by decide)
 have o_are_unlike_things:okSs (FnTop T 1) (Wd T) i_are_unlike_things:=by
  repeat' first | exact trivial | refine And.intro ?_ ?_ | assumption | exact rfl | exact fun z=>absurd z (by decide)
 have u_are_unlike_things:=Xn d_are_unlike_things X G Vs Zv hb (fun _ _ _ _ _ _=>len3 fun _ _ _=>rfl) Wt k_are_unlike_things o_are_unlike_things
 have uL_cellL_box:=uL_cell.up (show 1<=1 by decide)
 have uL_mixL_box:=uL_mix.up (show 1<=1 by decide)
 have oL_box:okSs (FnTop T 1) (Wd T) iL_box:=by
  repeat' first | exact trivial | refine And.intro ?_ ?_ | assumption | exact rfl | exact fun z=>absurd z (by decide)
 have uL_box:=Xn dL_box X G scL_box mL_box hb (fun _ _ _ _ _ _=>len2 fun _ _=>rfl) arL_box kL_box oL_box
 have uL_takeL_odd:=uL_take.up (show 1<=1 by decide)
 have oL_odd:okSs (FnTop T 1) (Wd T) iL_odd:=by
  repeat' first | exact trivial | refine And.intro ?_ ?_ | assumption | exact rfl | exact fun z=>absurd z (by decide)
 have uL_odd:=Xn dL_odd X G scL_odd mL_odd hb (fun _ _ _ _ _ _=>len1 fun _=>rfl) arL_odd kL_odd oL_odd
 have uL_takeL_lengths:=uL_take.up (show 1<=1 by decide)
 have oL_lengths:okSs (FnTop T 1) (Wd T) iL_lengths:=by
  repeat' first | exact trivial | refine And.intro ?_ ?_ | assumption | exact rfl | exact fun z=>absurd z (by decide)
 have uL_lengths:=Xn dL_lengths X G Xat Zbd hb (fun _ _ _ _ _ _=>len2 fun _ _=>rfl) Va0 kL_lengths oL_lengths
 have uL_wholeL_is_going:=uL_whole.up (show 1<=1 by decide)
 have uL_first_takeL_is_going:=uL_first_take.up (show 1<=1 by decide)
 have oL_is_going:okSs (FnTop T 1) (Wd T) iL_is_going:=by
  repeat' first | exact trivial | refine And.intro ?_ ?_ | assumption | exact rfl | exact fun z=>absurd z (by decide)
 have uL_is_going:=Xn dL_is_going X G Wal Wav hb (fun _ _ _ _ _ _=>len3 fun _ _ _=>rfl) War kL_is_going oL_is_going
 have uL_first_takeL_drawn:=uL_first_take.up (show 1<=1 by decide)
 have uL_takeL_drawn:=uL_take.up (show 1<=1 by decide)
 have oL_drawn:okSs (Za9 T (1 + 16)) (Wd T) iL_drawn:=by
  repeat' first | exact trivial | refine And.intro ?_ ?_ | assumption | exact rfl | exact fun _=>.inr ⟨rfl,lam⟩ | exact .inl (by assumption)
 have uL_drawn:=fn_atL dL_drawn X G Ybm Vcf hb (fun _ _ _ _ _ _=>len3 fun _ _ _=>rfl) Xb3 kL_drawn oL_drawn
 have uL_takeL_turned:=uL_take.up (show 1<=1 by decide)
 have oL_turned:okSs (FnTop T 1) (Wd T) iL_turned:=by
  repeat' first | exact trivial | refine And.intro ?_ ?_ | assumption | exact rfl | exact fun z=>absurd z (by decide)
 have uL_turned:=Xn dL_turned X G Xba Wbq hb (fun _ _ _ _ _ _=>len4 fun _ _ _ _=>rfl) Ybg kL_turned oL_turned
 have u_check_width_is_going:=u_check_width.up (show 2<=2 by decide)
 have u_first_size_is_going:=u_first_size.up (show 1<=2 by decide)
 have u_are_unlike_things_is_going:=u_are_unlike_things.up (show 2<=2 by decide)
 have u_leaves_shorter_is_going:=u_leaves_shorter.up (show 1<=2 by decide)
 have u_pour_things_is_going:=u_pour_things.up (show 1<=2 by decide)
 have o_is_going:okSs (FnTop T 2) (Wd T) i_is_going:=by
  repeat' first | exact trivial | refine And.intro ?_ ?_ | assumption | exact rfl | exact fun z=>absurd z (by decide)
 have u_is_going:=Xn d_is_going X G Yat Vbc hb (fun _ _ _ _ _ _=>len3 fun _ _ _=>rfl) Wa0 k_is_going o_is_going
 have uL_box_law:=uL_box.up (show 2<=3 by decide)
 have uL_lengths_law:=uL_lengths.up (show 2<=3 by decide)
 have uL_take_law:=uL_take.up (show 1<=3 by decide)
 have uL_drawn_law:=uL_drawn.up (show 2<=3 by decide)
 have uL_odd_law:=uL_odd.up (show 2<=3 by decide)
 have uL_turned_law:=uL_turned.up (show 2<=3 by decide)
 have uL_truth_law:=uL_truth.up (show 1<=3 by decide)
 have u_is_going_law:=u_is_going.up (show 3<=3 by decide)
 have uL_is_going_law:=uL_is_going.up (show 2<=3 by decide)
 have o_law:okSs (FnTop T 3) (Wd T) i_law:=by
  repeat' first | exact trivial | refine And.intro ?_ ?_ | assumption | exact rfl | exact fun z=>absurd z (by decide)
 exact fn_okF F sc_law m_law hb o_law ar_law k_law
end DW.K42
open PySem PySem.W PyProof.Rows
set_option maxRecDepth 100000 in
set_option maxHeartbeats 0 in
theorem PySem.Challenge.cw_pourwright_k42_goings_looked_at_holds : PySem.Challenge.rw_pourwright_k42_goings_looked_at.Holds := by
 w_on; o_law; k_head; (case hw=>w_witness2)
 k_fill
 refine DW.law_walkT (l:=PySem.Challenge.rw_pourwright_k42_goings_looked_at) (k:=20) ?I rfl (by decide) rfl (fun w h Y=>by first | exact PySem.W.kIn_of Y | exact PySem.W.km_in_of Y) (Option.some_get ?R).symm ?B ?F
 case R=>kernel_rfl
 case B=>exact fun w=>DW.tab_mk (by kernel_rfl)
 case I=>kernel_rfl
 case F =>
  intro w mg fa h KX G hmg
  have d_is_whole:DW.DefAt (L2.KOf KX) "is_whole" DW.K42.s_is_whole:=by
   dsimp only [L2.KOf]
   refine' DW.defAt_mk ?a ?l ?c ?k
   (case a=>k_is); (case l=>k_is); (case c=>k_is); (case k=>k_is)
  have d_first_size:DW.DefAt (L2.KOf KX) "first_size" DW.K42.s_first_size:=by
   dsimp only [L2.KOf]
   refine' DW.defAt_mk ?a ?l ?c ?k
   (case a=>k_is); (case l=>k_is); (case c=>k_is); (case k=>k_is)
  have d_pour_things:DW.DefAt (L2.KOf KX) "pour_things" DW.K42.s_pour_things:=by
   dsimp only [L2.KOf]
   refine' DW.defAt_mk ?a ?l ?c ?k
   (case a=>k_is); (case l=>k_is); (case c=>k_is); (case k=>k_is)
  have d_leaves_shorter:DW.DefAt (L2.KOf KX) "leaves_shorter" DW.K42.s_leaves_shorter:=by
   dsimp only [L2.KOf]
   refine' DW.defAt_mk ?a ?l ?c ?k
   (case a=>k_is); (case l=>k_is); (case c=>k_is); (case k=>k_is)
  have dL_cell:DW.DefAt (L2.KOf KX) "_law_cell" DW.K42.sL_cell:=by
   dsimp only [L2.KOf]
   refine' DW.defAt_mk ?a ?l ?c ?k
   (case a=>k_is); (case l=>k_is); (case c=>k_is); (case k=>k_is)
  have dL_mix:DW.DefAt (L2.KOf KX) "_law_mix" DW.K42.sL_mix:=by
   dsimp only [L2.KOf]
   refine' DW.defAt_mk ?a ?l ?c ?k
   (case a=>k_is); (case l=>k_is); (case c=>k_is); (case k=>k_is)
  have dL_take:DW.DefAt (L2.KOf KX) "_law_take" DW.K42.sL_take:=by
   dsimp only [L2.KOf]
   refine' DW.defAt_mk ?a ?l ?c ?k
   (case a=>k_is); (case l=>k_is); (case c=>k_is); (case k=>k_is)
  have dL_whole:DW.DefAt (L2.KOf KX) "_law_whole" DW.K42.sL_whole:=by
   dsimp only [L2.KOf]
   refine' DW.defAt_mk ?a ?l ?c ?k
   (case a=>k_is); (case l=>k_is); (case c=>k_is); (case k=>k_is)
  have dL_truth:DW.DefAt (L2.KOf KX) "_law_truth" DW.K42.sL_truth:=by
   dsimp only [L2.KOf]
   refine' DW.defAt_mk ?a ?l ?c ?k
   (case a=>k_is); (case l=>k_is); (case c=>k_is); (case k=>k_is)
  have dL_first_take:DW.DefAt (L2.KOf KX) "_law_first_take" DW.K42.sL_first_take:=by
   dsimp only [L2.KOf]
   refine' DW.defAt_mk ?a ?l ?c ?k
   (case a=>k_is); (case l=>k_is); (case c=>k_is); (case k=>k_is)
  have d_check_width:DW.DefAt (L2.KOf KX) "check_width" DW.K42.s_check_width:=by
   dsimp only [L2.KOf]
   refine' DW.defAt_mk ?a ?l ?c ?k
   (case a=>k_is); (case l=>k_is); (case c=>k_is); (case k=>k_is)
  have d_are_unlike_things:DW.DefAt (L2.KOf KX) "are_unlike_things" DW.K42.s_are_unlike_things:=by
   dsimp only [L2.KOf]
   refine' DW.defAt_mk ?a ?l ?c ?k
   (case a=>k_is); (case l=>k_is); (case c=>k_is); (case k=>k_is)
  have dL_box:DW.DefAt (L2.KOf KX) "_law_box" DW.K42.sL_box:=by
   dsimp only [L2.KOf]
   refine' DW.defAt_mk ?a ?l ?c ?k
   (case a=>k_is); (case l=>k_is); (case c=>k_is); (case k=>k_is)
  have dL_odd:DW.DefAt (L2.KOf KX) "_law_odd" DW.K42.sL_odd:=by
   dsimp only [L2.KOf]
   refine' DW.defAt_mk ?a ?l ?c ?k
   (case a=>k_is); (case l=>k_is); (case c=>k_is); (case k=>k_is)
  have dL_lengths:DW.DefAt (L2.KOf KX) "_law_lengths" DW.K42.sL_lengths:=by
   dsimp only [L2.KOf]
   refine' DW.defAt_mk ?a ?l ?c ?k
   (case a=>k_is); (case l=>k_is); (case c=>k_is); (case k=>k_is)
  have dL_is_going:DW.DefAt (L2.KOf KX) "_law_is_going" DW.K42.sL_is_going:=by
   dsimp only [L2.KOf]
   refine' DW.defAt_mk ?a ?l ?c ?k
   (case a=>k_is); (case l=>k_is); (case c=>k_is); (case k=>k_is)
  have dL_drawn:DW.DefAt (L2.KOf KX) "_law_drawn" DW.K42.sL_drawn:=by
   dsimp only [L2.KOf]
   refine' DW.defAt_mk ?a ?l ?c ?k
   (case a=>k_is); (case l=>k_is); (case c=>k_is); (case k=>k_is)
  have dL_turned:DW.DefAt (L2.KOf KX) "_law_turned" DW.K42.sL_turned:=by
   dsimp only [L2.KOf]
   refine' DW.defAt_mk ?a ?l ?c ?k
   (case a=>k_is); (case l=>k_is); (case c=>k_is); (case k=>k_is)
  have d_is_going:DW.DefAt (L2.KOf KX) "is_going" DW.K42.s_is_going:=by
   dsimp only [L2.KOf]
   refine' DW.defAt_mk ?a ?l ?c ?k
   (case a=>k_is); (case l=>k_is); (case c=>k_is); (case k=>k_is)
  have d_law:DW.DefAt (L2.KOf KX) "law" DW.K42.s_law:=by
   dsimp only [L2.KOf]
   refine' DW.defAt_mk ?a ?l ?c ?k
   (case a=>k_is); (case l=>k_is); (case c=>k_is); (case k=>k_is)
  have fr:DW.FreeAt (L2.KOf KX) DW.K42.blts:=by
   dsimp only [L2.KOf,DW.K42.blts,DW.FreeAt]
   refine' ⟨?z0,?z1,?z2,?z3,?z4,?z5,?z6,?z7,?z8,?z9,?z10,?z11,?z12,?z13,?z14,?z15,?z16,?z17,?z18,trivial⟩
   (case z0=>k_is)
   (case z1=>k_is)
   (case z2=>k_is)
   (case z3=>k_is)
   (case z4=>k_is)
   (case z5=>k_is)
   (case z6=>k_is)
   (case z7=>k_is)
   (case z8=>k_is)
   (case z9=>k_is)
   (case z10=>k_is)
   (case z11=>k_is)
   (case z12=>k_is)
   (case z13=>k_is)
   (case z14=>k_is)
   (case z15=>k_is)
   (case z16=>k_is)
   (case z17=>k_is)
   (case z18=>k_is)
  have c_LEAST_WIDTH:∃ t,PySem.W.nsIn (L2.KOf KX) mainGlobals "LEAST_WIDTH" = some (some (.int 2 t)):=by
   dsimp only [L2.KOf]
   refine' DW.intAt_mk ?z
   (case z=>k_is)
  obtain ⟨t_LEAST_WIDTH,c_LEAST_WIDTH⟩:=c_LEAST_WIDTH
  have c_MOST_WIDTH:∃ t,PySem.W.nsIn (L2.KOf KX) mainGlobals "MOST_WIDTH" = some (some (.int 8 t)):=by
   dsimp only [L2.KOf]
   refine' DW.intAt_mk ?z
   (case z=>k_is)
  obtain ⟨t_MOST_WIDTH,c_MOST_WIDTH⟩:=c_MOST_WIDTH
  obtain ⟨f,fd,e1,F⟩:=d_law
  have e2:=hmg.symm.trans (PySem.W.mg_of KX G e1)
  cases e2
  refine ⟨fd,?_,fun base _ _ lam=>DW.K42.law_fn (T:=⟨_,w,_,mg,base⟩) KX G fr c_LEAST_WIDTH c_MOST_WIDTH lam d_is_whole d_first_size d_pour_things d_leaves_shorter dL_cell dL_mix dL_take dL_whole dL_truth dL_first_take d_check_width d_are_unlike_things dL_box dL_odd dL_lengths dL_is_going dL_drawn dL_turned d_is_going F⟩
  obtain ⟨oc,od,kV,doc,pm,an,cdv,ct,osl,rfl,lk,hcd⟩:=F.ex
  exact fun s u=>.of_eq rfl
#print axioms PySem.Challenge.cw_pourwright_k42_goings_looked_at_holds
