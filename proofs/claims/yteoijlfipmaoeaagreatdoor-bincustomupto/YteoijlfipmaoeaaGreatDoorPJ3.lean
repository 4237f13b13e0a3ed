import Derived.Test.YteoijlfipmaoeaaGreatDoorPJ1
import Derived.RowKit
import Derived.Lib.Strings
import Derived.Lib.IndexMore
import Derived.LaidEql
import Derived.Stop.Asserts
import Derived.RowKitTokens
import Derived.IntWalk
import Derived.ChangeArms
import Derived.Deep.Fields
import Derived.Deep.Slices
import Derived.ChangeSame
set_option linter.unusedVariables false
set_option linter.unusedSimpArgs false
set_option maxRecDepth 100000
set_option maxHeartbeats 4000000
namespace Go.Proofs.YteoijlfipmaoeaaGreatDoor.Opx
open Go.Lib
def tab:List (List UInt8):=[[117,110,114,101,97,99,104,97,98,108,101],[110,111,112],[98,108,111,99,107],[108,111,111,112],[105,102],[],[],[],[],[],[],[],[98,114],[98,114,95,105,102],[98,114,95,116,97,98,108,101],[114,101,116,117,114,110],[99,97,108,108],[99,97,108,108,95,105,110,100,105,114,101,99,116],[],[],[],[],[],[],[],[],[100,114,111,112],[115,101,108,101,99,116],[],[],[],[],[108,111,99,97,108,46,103,101,116],[108,111,99,97,108,46,115,101,116],[108,111,99,97,108,46,116,101,101],[103,108,111,98,97,108,46,103,101,116],[103,108,111,98,97,108,46,115,101,116],[],[],[],[105,51,50,46,108,111,97,100],[105,54,52,46,108,111,97,100],[],[],[105,51,50,46,108,111,97,100,56,95,115],[105,51,50,46,108,111,97,100,56,95,117],[105,51,50,46,108,111,97,100,49,54,95,115],[105,51,50,46,108,111,97,100,49,54,95,117],[105,54,52,46,108,111,97,100,56,95,115],[105,54,52,46,108,111,97,100,56,95,117],[105,54,52,46,108,111,97,100,49,54,95,115],[105,54,52,46,108,111,97,100,49,54,95,117],[105,54,52,46,108,111,97,100,51,50,95,115],[105,54,52,46,108,111,97,100,51,50,95,117],[105,51,50,46,115,116,111,114,101],[105,54,52,46,115,116,111,114,101],[],[],[105,51,50,46,115,116,111,114,101,56],[105,51,50,46,115,116,111,114,101,49,54],[105,54,52,46,115,116,111,114,101,56],[105,54,52,46,115,116,111,114,101,49,54],[105,54,52,46,115,116,111,114,101,51,50],[109,101,109,111,114,121,46,115,105,122,101],[109,101,109,111,114,121,46,103,114,111,119],[105,51,50,46,99,111,110,115,116],[105,54,52,46,99,111,110,115,116],[],[],[105,51,50,46,101,113,122],[105,51,50,46,101,113],[105,51,50,46,110,101],[105,51,50,46,108,116,95,115],[105,51,50,46,108,116,95,117],[105,51,50,46,103,116,95,115],[105,51,50,46,103,116,95,117],[105,51,50,46,108,101,95,115],[105,51,50,46,108,101,95,117],[105,51,50,46,103,101,95,115],[105,51,50,46,103,101,95,117],[105,54,52,46,101,113,122],[105,54,52,46,101,113],[105,54,52,46,110,101],[105,54,52,46,108,116,95,115],[105,54,52,46,108,116,95,117],[105,54,52,46,103,116,95,115],[105,54,52,46,103,116,95,117],[105,54,52,46,108,101,95,115],[105,54,52,46,108,101,95,117],[105,54,52,46,103,101,95,115],[105,54,52,46,103,101,95,117],[],[],[],[],[],[],[],[],[],[],[],[],[105,51,50,46,99,108,122],[105,51,50,46,99,116,122],[105,51,50,46,112,111,112,99,110,116],[105,51,50,46,97,100,100],[105,51,50,46,115,117,98],[105,51,50,46,109,117,108],[105,51,50,46,100,105,118,95,115],[105,51,50,46,100,105,118,95,117],[105,51,50,46,114,101,109,95,115],[105,51,50,46,114,101,109,95,117],[105,51,50,46,97,110,100],[105,51,50,46,111,114],[105,51,50,46,120,111,114],[105,51,50,46,115,104,108],[105,51,50,46,115,104,114,95,115],[105,51,50,46,115,104,114,95,117],[105,51,50,46,114,111,116,108],[105,51,50,46,114,111,116,114],[105,54,52,46,99,108,122],[105,54,52,46,99,116,122],[105,54,52,46,112,111,112,99,110,116],[105,54,52,46,97,100,100],[105,54,52,46,115,117,98],[105,54,52,46,109,117,108],[105,54,52,46,100,105,118,95,115],[105,54,52,46,100,105,118,95,117],[105,54,52,46,114,101,109,95,115],[105,54,52,46,114,101,109,95,117],[105,54,52,46,97,110,100],[105,54,52,46,111,114],[105,54,52,46,120,111,114],[105,54,52,46,115,104,108],[105,54,52,46,115,104,114,95,115],[105,54,52,46,115,104,114,95,117],[105,54,52,46,114,111,116,108],[105,54,52,46,114,111,116,114],[],[],[],[],[],[],[],[],[],[],[],[],[],[],[],[],[],[],[],[],[],[],[],[],[],[],[],[],[105,51,50,46,119,114,97,112,95,105,54,52],[],[],[],[],[105,54,52,46,101,120,116,101,110,100,95,105,51,50,95,115],[105,54,52,46,101,120,116,101,110,100,95,105,51,50,95,117]]
def nm(b:Int):List UInt8:=if 0<=b then tab.getD b.toNat []else[]
def nmB(b:Int):ByteArray:=⟨(nm b).toArray⟩
def flt(b:Int):Bool:=decide (b=42\/b=43\/b=56\/b=57\/b=67\/b=68\/(91<=b/\b<=102)\/(139<=b/\b<=166)\/(168<=b/\b<=171)\/(174<=b/\b<=191))
def kd(b:Int):Int:=
 if b<=1 then 1 else if b<=4 then 2 else if b<=15 then 3 else if b<=17 then 4 else if b<=27 then 5 else if b<=36 then 6
 else if b<=53 then 7 else if b<=62 then 8 else if b<=64 then 9 else if b<=66 then 10 else 11
def ty(n:List UInt8):Int:=if hasPrefix n [105,54,52,46]then 2 else 1
def argTy(b:Int):Int:=if b<167 then ty (nm b)else 3-ty (nm b)
def many(b:Int):Int:=
 if b=69\/b=80\/(103<=b/\b<=105)\/(121<=b/\b<=123)\/b=167\/b=172\/b=173 then 1
 else if(70<=b/\b<=79)\/(81<=b/\b<=90)\/(106<=b/\b<=120)\/(124<=b/\b<=138)then 2 else 0
def tk(b:Int):List Int:=
 if kd b=7 then[1]else if kd b=8 then[1,ty (nm b)]else if kd b=11 then List.replicate (many b).toNat (argTy b)
 else if b=4\/b=13\/b=14\/b=17\/b=27\/b=64 then[1]else[]
def gv(b:Int):Int:=
 if kd b=7\/kd b=10 then ty (nm b)else if kd b=9 then 1 else if kd b=11 then(if b<=90 then 1 else ty (nm b))else 0
def acc(n:List UInt8):Int:=
 if contains (cut n [46]).2.1 [56]then 1 else if contains (cut n [46]).2.1 [49,54]then 2 else if contains (cut n [46]).2.1 [51,50]then 4 else if ty n=1 then 4 else 8
def by_(b:Int):Int:=if kd b=7\/kd b=8 then acc (nm b)else 0
def sn(b:Int):Bool:=if kd b=7\/kd b=8 then hasSuffix (nm b) [95,115]else false
structure R where
 byte:Int
 name:List UInt8
 kind:Int
 types:List UInt8
 bytes:Int
deriving DecidableEq,Inhabited
def rows:List R:=[⟨0,[117,110,114,101,97,99,104,97,98,108,101],1,[58],0⟩,⟨1,[110,111,112],1,[58],0⟩,⟨2,[98,108,111,99,107],2,[58],0⟩,⟨3,[108,111,111,112],2,[58],0⟩,⟨4,[105,102],2,[52,58],0⟩,⟨12,[98,114],3,[58],0⟩,⟨13,[98,114,95,105,102],3,[52,58],0⟩,⟨14,[98,114,95,116,97,98,108,101],3,[52,58],0⟩,⟨15,[114,101,116,117,114,110],3,[58],0⟩,⟨16,[99,97,108,108],4,[58],0⟩,⟨17,[99,97,108,108,95,105,110,100,105,114,101,99,116],4,[52,58],0⟩,⟨26,[100,114,111,112],5,[58],0⟩,⟨27,[115,101,108,101,99,116],5,[52,58],0⟩,⟨32,[108,111,99,97,108,46,103,101,116],6,[58],0⟩,⟨33,[108,111,99,97,108,46,115,101,116],6,[58],0⟩,⟨34,[108,111,99,97,108,46,116,101,101],6,[58],0⟩,⟨35,[103,108,111,98,97,108,46,103,101,116],6,[58],0⟩,⟨36,[103,108,111,98,97,108,46,115,101,116],6,[58],0⟩,⟨40,[105,51,50,46,108,111,97,100],7,[52,58,52],4⟩,⟨41,[105,54,52,46,108,111,97,100],7,[52,58,56],8⟩,⟨44,[105,51,50,46,108,111,97,100,56,95,115],7,[52,58,52],1⟩,⟨45,[105,51,50,46,108,111,97,100,56,95,117],7,[52,58,52],1⟩,⟨46,[105,51,50,46,108,111,97,100,49,54,95,115],7,[52,58,52],2⟩,⟨47,[105,51,50,46,108,111,97,100,49,54,95,117],7,[52,58,52],2⟩,⟨48,[105,54,52,46,108,111,97,100,56,95,115],7,[52,58,56],1⟩,⟨49,[105,54,52,46,108,111,97,100,56,95,117],7,[52,58,56],1⟩,⟨50,[105,54,52,46,108,111,97,100,49,54,95,115],7,[52,58,56],2⟩,⟨51,[105,54,52,46,108,111,97,100,49,54,95,117],7,[52,58,56],2⟩,⟨52,[105,54,52,46,108,111,97,100,51,50,95,115],7,[52,58,56],4⟩,⟨53,[105,54,52,46,108,111,97,100,51,50,95,117],7,[52,58,56],4⟩,⟨54,[105,51,50,46,115,116,111,114,101],8,[52,52,58],4⟩,⟨55,[105,54,52,46,115,116,111,114,101],8,[52,56,58],8⟩,⟨58,[105,51,50,46,115,116,111,114,101,56],8,[52,52,58],1⟩,⟨59,[105,51,50,46,115,116,111,114,101,49,54],8,[52,52,58],2⟩,⟨60,[105,54,52,46,115,116,111,114,101,56],8,[52,56,58],1⟩,⟨61,[105,54,52,46,115,116,111,114,101,49,54],8,[52,56,58],2⟩,⟨62,[105,54,52,46,115,116,111,114,101,51,50],8,[52,56,58],4⟩,⟨63,[109,101,109,111,114,121,46,115,105,122,101],9,[58,52],0⟩,⟨64,[109,101,109,111,114,121,46,103,114,111,119],9,[52,58,52],0⟩,⟨65,[105,51,50,46,99,111,110,115,116],10,[58,52],0⟩,⟨66,[105,54,52,46,99,111,110,115,116],10,[58,56],0⟩,⟨69,[105,51,50,46,101,113,122],11,[52,58,52],0⟩,⟨80,[105,54,52,46,101,113,122],11,[56,58,52],0⟩,⟨167,[105,51,50,46,119,114,97,112,95,105,54,52],11,[56,58,52],0⟩,⟨172,[105,54,52,46,101,120,116,101,110,100,95,105,51,50,95,115],11,[52,58,56],0⟩,⟨173,[105,54,52,46,101,120,116,101,110,100,95,105,51,50,95,117],11,[52,58,56],0⟩]
def cmpN:List (List UInt8):=[[101,113],[110,101],[108,116,95,115],[108,116,95,117],[103,116,95,115],[103,116,95,117],[108,101,95,115],[108,101,95,117],[103,101,95,115],[103,101,95,117]]
def reckN:List (List UInt8):=[[99,108,122],[99,116,122],[112,111,112,99,110,116],[97,100,100],[115,117,98],[109,117,108],[100,105,118,95,115],[100,105,118,95,117],[114,101,109,95,115],[114,101,109,95,117],[97,110,100],[111,114],[120,111,114],[115,104,108],[115,104,114,95,115],[115,104,114,95,117],[114,111,116,108],[114,111,116,114]]
def i32d:List UInt8:=[105,51,50,46]
def i64d:List UInt8:=[105,54,52,46]
def two1(i:Nat):List R:=[⟨70+i,i32d++cmpN.getD i [],11,[52,52,58,52],0⟩,⟨81+i,i64d++cmpN.getD i [],11,[56,56,58,52],0⟩]
def two2(i:Nat):List R:=[⟨103+i,i32d++reckN.getD i [],11,(if i<3 then[52,58,52]else[52,52,58,52]),0⟩,⟨121+i,i64d++reckN.getD i [],11,(if i<3 then[56,58,56]else[56,56,58,56]),0⟩]
def upTo1(j:Nat):List R:=rows++(List.range j).flatMap two1
def upTo2(j:Nat):List R:=upTo1 10++(List.range j).flatMap two2
def all:List R:=upTo2 18
theorem no_flt:((List.range 174).all λj=>!(flt j) || (nm j).isEmpty)=true:=by decide +kernel
theorem num_many:((List.range 174).all λj=>(nm j).isEmpty || !(kd j==11) || (many j==1) || (many j==2))=true:=by decide +kernel
theorem short:(tab.all λn=>decide (n.length<=20))=true:=by decide +kernel
end Go.Proofs.YteoijlfipmaoeaaGreatDoor.Opx
namespace Go.Proofs.YteoijlfipmaoeaaGreatDoor
open Go.RowKit Go.Extern.Stop Go.Stop Go.Extern
open Go.Proofs.Tryz
def Et(w:World):Prop:=w.cell? ⟨0,0,none⟩=some (.iface 258 (.agg #[.pointer (some ⟨6,37,none⟩)]))
theorem as_nil(t:Value)(w:World):
  Calls prog 54 #[.nilIface,t] w λe w'=>e=.returned (.bool false)/\w'=w:=by
 go_enter func54,ntmps54
 go_wp2
 go_ret
 exact⟨rfl,rfl⟩
theorem As.valueOfPP(t:Addr)(w:World):(ReflectliteValue.unpack (.iface 117 (.pointer (some t)))).run prog w
  = .ok (.agg #[.pointer (some ⟨6,117,none⟩),.pointer (some ⟨w.heap.size,0,none⟩),.int .u64 150]) (w.alloc (.cells #[.pointer (some t)] 117)):=by kernel_rfl
theorem As.typePP(a:Addr)(w:World):(ReflectliteValue.methodAny (ReflectliteValue.valueError "reflectlite.Value.Type" 0) (λt _ _ _=>ReflectliteType.toType t) #[.agg #[.pointer (some ⟨6,117,none⟩),.pointer (some a),.int .u64 150]]).run prog w
  = .ok (.iface 258 (.agg #[.pointer (some ⟨6,117,none⟩)])) w:=by kernel_rfl
theorem As.methodKind(h:Value)(w:World):(Go.method 484 258 (.agg #[h]) "Kind").run prog w=.ok (330,h) w:=by kernel_rfl
theorem As.kindPP(w:World):((ReflectliteType.abiMethod λt=>(λa:Nat=>Value.int IntKind.u8 (a:Int)) <$> Rtype.kind t) #[.pointer (some ⟨6,117,none⟩)]).run prog w=.ok (.int .u8 22) w:=by kernel_rfl
theorem As.kindP(w:World):((ReflectliteType.abiMethod λt=>(λa:Nat=>Value.int IntKind.u8 (a:Int)) <$> Rtype.kind t) #[.pointer (some ⟨6,115,none⟩)]).run prog w=.ok (.int .u8 22) w:=by kernel_rfl
theorem rlm(z:Sem Value)(f:TypeId->Addr->Nat->Nat->Sem Value)(v:Value):
  ReflectliteValue.method z f #[v]=(do match <-ReflectliteValue.parts v with|none=>z|some (t,a,fl)=>f t a fl (fl%32)):=rfl
theorem As.partsPP(a:Addr)(w:World):(ReflectliteValue.parts (.agg #[.pointer (some ⟨6,117,none⟩),.pointer (some a),.int .u64 150])).run prog w=.ok (some (117,a,150)) w:=by kernel_rfl
theorem As.isNilPP(a p:Addr)(W:World)(ha:W.cell? a=some (.pointer (some p))):
  (ReflectliteValue.method (ReflectliteValue.valueError "reflectlite.Value.IsNil" 0) ReflectliteValue.isNil #[.agg #[.pointer (some ⟨6,117,none⟩),.pointer (some a),.int .u64 150]]).run prog W=.ok (.bool false) W:=by
 rw[rlm]
 simp only[Sem.run_bind,As.partsPP,Result.andThen]
 simp[ReflectliteValue.isNil,loadVar,isAgg,underlying,underlying117,ha,Result.andThen]
theorem As.methodElem(h:Value)(w:World):(Go.method 484 258 (.agg #[h]) "Elem").run prog w=.ok (342,.agg #[h]) w:=by kernel_rfl
theorem As.methodImplements(h:Value)(w:World):(Go.method 484 258 (.agg #[h]) "Implements").run prog w=.ok (343,.agg #[h]) w:=by kernel_rfl
theorem As.methodAssignableTo(h:Value)(w:World):(Go.method 484 258 (.agg #[h]) "AssignableTo").run prog w=.ok (340,.agg #[h]) w:=by kernel_rfl
theorem As.elemPP(w:World):(ReflectliteType.method ReflectliteType.elem #[.agg #[.pointer (some ⟨6,117,none⟩)]]).run prog w=.ok (.iface 258 (.agg #[.pointer (some ⟨6,115,none⟩)])) w:=by kernel_rfl
theorem As.implementsP(w:World):(ReflectliteType.relation "Implements" ReflectliteType.implements_ #[.agg #[.pointer (some ⟨6,115,none⟩)],.iface 258 (.agg #[.pointer (some ⟨6,37,none⟩)])]).run prog w=.ok (.bool true) w:=by kernel_rfl
theorem As.typeOfP(v:Value)(w:World):(ReflectliteType.typeOf #[.iface 115 v]).run prog w=.ok (.iface 258 (.agg #[.pointer (some ⟨6,115,none⟩)])) w:=by kernel_rfl
theorem As.typeOfC(v:Value)(w:World):(ReflectliteType.typeOf #[.iface 40 v]).run prog w=.ok (.iface 258 (.agg #[.pointer (some ⟨6,40,none⟩)])) w:=by kernel_rfl
theorem As.assignableP(w:World):(ReflectliteType.relation "AssignableTo" ReflectliteType.assignableTo #[.agg #[.pointer (some ⟨6,115,none⟩)],.iface 258 (.agg #[.pointer (some ⟨6,115,none⟩)])]).run prog w=.ok (.bool true) w:=by kernel_rfl
theorem As.valueOfP(e:Addr)(w:World):(ReflectliteValue.unpack (.iface 115 (.pointer (some e)))).run prog w
  = .ok (.agg #[.pointer (some ⟨6,115,none⟩),.pointer (some ⟨w.heap.size,0,none⟩),.int .u64 150]) (w.alloc (.cells #[.pointer (some e)] 115)):=by kernel_rfl
theorem As.elemOfPP(w:World):(Rtype.elem? 117).run prog w=.ok (some 115) w:=by kernel_rfl
theorem As.mkP(p:Addr)(w:World):(ReflectliteValue.mk 115 p ReflectliteValue.flagAddr).run prog w=.ok (.agg #[.pointer (some ⟨6,115,none⟩),.pointer (some p),.int .u64 406]) w:=by kernel_rfl
theorem As.elemVPP(a p:Addr)(W:World)(ha:W.cell? a=some (.pointer (some p))):
  (ReflectliteValue.method (ReflectliteValue.valueError "reflectlite.Value.Elem" 0) ReflectliteValue.elem #[.agg #[.pointer (some ⟨6,117,none⟩),.pointer (some a),.int .u64 150]]).run prog W
   = .ok (.agg #[.pointer (some ⟨6,115,none⟩),.pointer (some p),.int .u64 406]) W:=by
 rw[rlm]
 simp only[Sem.run_bind,As.partsPP,Result.andThen]
 simp[ReflectliteValue.elem,loadVar,isAgg,underlying,underlying117,ha,Result.andThen,As.elemOfPP,As.mkP]
theorem rls(v x:Value):ReflectliteValue.set #[v,x]=(do
  let(some (dst,a,fl),some (src,b,_)):=(<-ReflectliteValue.parts v,<-ReflectliteValue.parts x)
   |unsupported (.noEntry "extern/(internal/reflectlite.Value).Set.zeroValue")
  if fl / ReflectliteValue.flagAddr%2==0 then unsupported (.noEntry "extern/(internal/reflectlite.Value).Set.unaddressable")
  let val <-loadVar src b
  if <-Rtype.directlyAssignable dst src then storeVar dst a val
  else if <-Rtype.implements dst src then
   if(<-Rtype.kind src)==20 then
    match val with
    |.nilIface=>unsupported (.noEntry "extern/reflectlite: a nil value of one interface type handed on as a value of another")
    |_=>storeVar dst a val
   else storeVar dst a (.iface src val)
  else panicString ("reflectlite.Set: value of type " ++(<-Rtype.spelt src)++ " is not assignable to type " ++(<-Rtype.spelt dst))
  pure (.tuple #[])):=rfl
theorem As.partsPa(a:Addr)(w:World):(ReflectliteValue.parts (.agg #[.pointer (some ⟨6,115,none⟩),.pointer (some a),.int .u64 406])).run prog w=.ok (some (115,a,406)) w:=by kernel_rfl
theorem As.partsP(a:Addr)(w:World):(ReflectliteValue.parts (.agg #[.pointer (some ⟨6,115,none⟩),.pointer (some a),.int .u64 150])).run prog w=.ok (some (115,a,150)) w:=by kernel_rfl
theorem As.directP(w:World):(Rtype.directlyAssignable 115 115).run prog w=.ok true w:=by kernel_rfl
theorem As.setP(ta b e:Addr)(old:Value)(W:World)(hb:W.cell? b=some (.pointer (some e)))(ht:W.cell? ta=some old)(hf:W.frozen? ta=false):
  (ReflectliteValue.set #[.agg #[.pointer (some ⟨6,115,none⟩),.pointer (some ta),.int .u64 406],.agg #[.pointer (some ⟨6,115,none⟩),.pointer (some b),.int .u64 150]]).run prog W
   = .ok (.tuple #[]) (W.setCell ta (.pointer (some e))):=by
 rw[rls]
 simp only[Sem.run_bind,As.partsPa,As.partsP,Result.andThen]
 simp[ReflectliteValue.flagAddr,loadVar,isAgg,underlying,underlying115,hb,Result.andThen,As.directP,storeVar,Value.cells,storeCells,Addr.add]
 rw[run_store prog W ta _ _ (by rfl)]
 simp[ht,hf]
theorem as_hit(e t:Addr)(old:Value)(w:World)(hg:Et w)(ht0:w.cell? t=some old)(hf0:w.frozen? t=false):
  Calls prog 54 #[.iface 115 (.pointer (some e)),.iface 117 (.pointer (some t))] w λev w'=>ev=.returned (.bool true)/\w'=((((w.alloc (.cells #[.pointer (some t)] 117)).alloc (.cells #[.pointer (some ⟨6,117,none⟩),.pointer (some ⟨w.heap.size,0,none⟩),.int .u64 150] 200)).alloc (.cells #[.pointer (some ⟨6,117,none⟩),.pointer (some ⟨w.heap.size,0,none⟩),.int .u64 150] 200)).alloc (.cells #[.pointer (some e)] 115)).setCell t (.pointer (some e)):=by
 unfold Et at hg
 have h6:=@run_callFunc_extern prog 151 _ (λargs=>ReflectliteValue.unpack (args.getD 0 (.tuple #[]))) func151 (by kernel_rfl) (by kernel_rfl) (by kernel_rfl) (by kernel_rfl)
 have h7:=@run_callFunc_extern prog 152 _ (ReflectliteValue.methodAny (ReflectliteValue.valueError "reflectlite.Value.Type" 0) (λt _ _ _=>ReflectliteType.toType t)) func152 (by kernel_rfl) (by kernel_rfl) (by kernel_rfl) (by kernel_rfl)
 have h8:=@run_callFunc_extern prog 153 _ (ReflectliteValue.method (ReflectliteValue.valueError "reflectlite.Value.IsNil" 0) ReflectliteValue.isNil) func153 (by kernel_rfl) (by kernel_rfl) (by kernel_rfl) (by kernel_rfl)
 have h27:=@run_callFunc_extern prog 330 _ (ReflectliteType.abiMethod λt=>do pure (.int .u8 (<-Rtype.kind t))) func330 (by kernel_rfl) (by kernel_rfl) (by kernel_rfl) (by kernel_rfl)
 have h37:=@run_callFunc_extern prog 342 _ (ReflectliteType.method ReflectliteType.elem) func342 (by kernel_rfl) (by kernel_rfl) (by kernel_rfl) (by kernel_rfl)
 have h38:=@run_callFunc_extern prog 343 _ (ReflectliteType.relation "Implements" ReflectliteType.implements_) func343 (by kernel_rfl) (by kernel_rfl) (by kernel_rfl) (by kernel_rfl)
 have h10:=@run_callFunc_extern prog 155 _ ReflectliteType.typeOf func155 (by kernel_rfl) (by kernel_rfl) (by kernel_rfl) (by kernel_rfl)
 have h35:=@run_callFunc_extern prog 340 _ (ReflectliteType.relation "AssignableTo" ReflectliteType.assignableTo) func340 (by kernel_rfl) (by kernel_rfl) (by kernel_rfl) (by kernel_rfl)
 have h11:=@run_callFunc_extern prog 223 _ (ReflectliteValue.method (ReflectliteValue.valueError "reflectlite.Value.Elem" 0) ReflectliteValue.elem) func223 (by kernel_rfl) (by kernel_rfl) (by kernel_rfl) (by kernel_rfl)
 have h12:=@run_callFunc_extern prog 224 _ ReflectliteValue.set func224 (by kernel_rfl) (by kernel_rfl) (by kernel_rfl) (by kernel_rfl)
 have tO:=As.typeOfP
 have mA:=As.methodAssignableTo
 have a25:=As.assignableP
 have v25:=As.valueOfP
 have f6:=As.valueOfPP
 have f7:=As.typePP
 have mK:=As.methodKind
 have mE:=As.methodElem
 have mI:=As.methodImplements
 have k27:=As.kindPP
 have k25:=As.kindP
 have e27:=As.elemPP
 have i25:=As.implementsP
 have n8:=As.isNilPP ⟨w.heap.size,0,none⟩ t ((w.alloc (.cells #[.pointer (some t)] 117)).alloc (.cells #[.pointer (some ⟨6,117,none⟩),.pointer (some ⟨w.heap.size,0,none⟩),.int .u64 150] 200)) (by simp)
 have hlt:0<w.heap.size:=zn _ _ hg
 have hg2:((w.alloc (.cells #[.pointer (some t)] 117)).alloc (.cells #[.pointer (some ⟨6,117,none⟩),.pointer (some ⟨w.heap.size,0,none⟩),.int .u64 150] 200)).cell? ⟨0,0,none⟩=some (.iface 258 (.agg #[.pointer (some ⟨6,37,none⟩)])):=by
  rw[zg _ _ ⟨0,0,none⟩ (by simp<;>omega),zg _ _ ⟨0,0,none⟩ hlt];exact hg
 have htl:t.block<w.heap.size:=zn _ _ ht0
 have el:=As.elemVPP ⟨w.heap.size,0,none⟩ t (((w.alloc (.cells #[.pointer (some t)] 117)).alloc (.cells #[.pointer (some ⟨6,117,none⟩),.pointer (some ⟨w.heap.size,0,none⟩),.int .u64 150] 200)).alloc (.cells #[.pointer (some ⟨6,117,none⟩),.pointer (some ⟨w.heap.size,0,none⟩),.int .u64 150] 200)) (by rw[zg _ _ ⟨w.heap.size,0,none⟩ (by simp;omega)];simp)
 have st:=As.setP t ⟨w.heap.size+1+1+1,0,none⟩ e old ((((w.alloc (.cells #[.pointer (some t)] 117)).alloc (.cells #[.pointer (some ⟨6,117,none⟩),.pointer (some ⟨w.heap.size,0,none⟩),.int .u64 150] 200)).alloc (.cells #[.pointer (some ⟨6,117,none⟩),.pointer (some ⟨w.heap.size,0,none⟩),.int .u64 150] 200)).alloc (.cells #[.pointer (some e)] 115))
  (by rw[zv _ _ _ _ (by simp)];rfl)
  (by rw[zg _ _ t (by simp;omega),zg _ _ t (by simp;omega),zg _ _ t (by simp;omega),zg _ _ t htl];exact ht0)
  (by rw[qr _ _ t (by simp;omega),qr _ _ t (by simp;omega),qr _ _ t (by simp;omega),qr _ _ t (jb htl)];exact hf0)
 go_enter func54,ntmps54
 go_wp2
 refine wp_loop_rounds 1 ?_
 rw[rounds_succ]
 go_wp2
 go_ret
 exact⟨rfl,rfl⟩
end Go.Proofs.YteoijlfipmaoeaaGreatDoor
namespace Go.Proofs.YteoijlfipmaoeaaGreatDoor.Trx
open Go.RowKit
inductive Fo where
 |nil
 |cons (op a b v t:Int) (L:List Int) (body els:Fo) (he:Bool) (next:Fo)
deriving Inhabited
structure Nd where
 op:Int
 a:Int
 b:Int
 v:Int
 t:Int
 L:List Int
 body:Fo
 els:Fo
 he:Bool
deriving Inhabited
def nds:Fo->List Nd
 |.nil=>[]
 |.cons op a b v t L body els he next=>⟨op,a,b,v,t,L,body,els,he⟩::nds next
def ofN:List Nd->Fo
 | []=>.nil
 |n::r=>.cons n.op n.a n.b n.v n.t n.L n.body n.els n.he (ofN r)
@[simp] theorem nds_ofN(l:List Nd):nds (ofN l)=l:=by
 induction l with
 |nil=>rfl
 |cons n l ih=>simp[ofN,nds,ih]
@[simp] theorem ofN_nds(f:Fo):ofN (nds f)=f:=by
 induction f with
 |nil=>rfl
 |cons op a b v t L body els he next _ _ ih=>simp[ofN,nds,ih]
def len(f:Fo):Nat:=(nds f).length
@[simp] theorem len_nil:len .nil=0:=rfl
theorem len_zero{f:Fo}(h:len f=0):f=.nil:=by
 cases f with
 |nil=>rfl
 |cons=>simp[len,nds]at h
@[simp] theorem len_ofN(l:List Nd):len (ofN l)=l.length:=by simp[len]
def cnt:Fo->Nat
 |.nil=>0
 |.cons _ _ _ _ _ _ body els _ next=>1+cnt body+cnt els+cnt next
theorem cnt_snoc(l:List Nd)(n:Nd):cnt (ofN (l++[n]))=cnt (ofN l)+1+cnt n.body+cnt n.els:=by
 induction l with
 |nil=>simp[ofN,cnt]
 |cons m l ih=>simp only[zi,ofN,cnt,ih];omega
theorem cnt_mem{f:Fo}{n:Nd}(h:n∈nds f):cnt n.body<cnt f/\cnt n.els<cnt f:=by
 induction f with
 |nil=>simp[nds]at h
 |cons op a b v t L body els he next _ _ ih=>
  simp only[nds,List.mem_cons]at h
  rcases h with rfl|h
  ·simp only[cnt];omega
  ·
   have:=ih h
   simp only[cnt];omega
def isBlk(op:Int):Bool:=decide (2<=op)&&decide (op<=4)
def up1(x:Int):Int:=wrap64 (x+1)
def dp:Fo->Int
 |.nil=>0
 |.cons op _ _ _ _ _ body els _ next=>if isBlk op then max (max (up1 (dp body)) (up1 (dp els))) (dp next)else dp next
theorem dp_nonneg(f:Fo):0<=dp f:=by
 induction f with
 |nil=>simp[dp]
 |cons op a b v t L body els he next _ _ ih=>simp only[dp];split<;>omega
theorem up1_le(x:Int):up1 x<=9223372036854775807:=by unfold up1 wrap64;omega
theorem dp_le(f:Fo):dp f<=9223372036854775807:=by
 induction f with
 |nil=>simp[dp]
 |cons op a b v t L body els he next _ _ ih=>
  simp only[dp]
  have h1:=up1_le (dp body)
  have h2:=up1_le (dp els)
  split<;>omega
theorem dp_append(l m:List Nd):dp (ofN (l++m))=max (dp (ofN l)) (dp (ofN m)):=by
 induction l with
 |nil=>have:=dp_nonneg (ofN m);simp only[qx,ofN,dp];omega
 |cons n l ih=>simp only[zi,ofN,dp,ih];split<;>omega
theorem dp_snoc_blk(l:List Nd)(n:Nd)(h:isBlk n.op=true):dp (ofN (l++[n]))=max (max (dp (ofN l)) (up1 (dp n.body))) (up1 (dp n.els)):=by
 have:=dp_nonneg (ofN l)
 rw[dp_append]
 simp only[ofN,dp,h,if_true]
 omega
theorem dp_snoc_not(l:List Nd)(n:Nd)(h:isBlk n.op=false):dp (ofN (l++[n]))=dp (ofN l):=by
 have:=dp_nonneg (ofN l)
 rw[dp_append]
 simp only[ofN,dp,h]
 simp
 omega
def knd(op:Int):Int:=if(Opx.nm op).isEmpty then 0 else Opx.kd op
def num32(n:Int):Bool:=decide (0<=n)&&decide (n<=4294967295)
def fit(op a b v t:Int)(L:List Int)(nb ne he:Bool):Bool:=
 let k:=knd op
 let pa:=k==4 || k==6 || op==12 || op==13 || k==7 || k==8
 let pb:=k==7 || k==8
 !(k==0)&&(pa || a==0)&&(pb || b==0)&&(k==10 || v==0)&&(k==2 || (t==0&&nb))&&(op==14 || L.isEmpty)&&(!(op==14) || !L.isEmpty)
 && (op==4 || !he)&&(he || ne)&&num32 a&&num32 b&&decide (0<=t)&&decide (t<=2)&&!(op==65&&decide (4294967295<v))&&L.all num32
def isNil:Fo->Bool
 |.nil=>true
 |_=>false
def may:Fo->Bool
 |.nil=>true
 |.cons op a b v t L body els he next=>(fit op a b v t L (isNil body) (isNil els) he&&may body&&may els)&&may next
def mayN(n:Nd):Bool:=fit n.op n.a n.b n.v n.t n.L (isNil n.body) (isNil n.els) n.he&&may n.body&&may n.els
theorem may_nds(f:Fo):may f=(nds f).all mayN:=by
 induction f with
 |nil=>rfl
 |cons op a b v t L body els he next _ _ ih=>simp[may,nds,mayN,ih]
theorem may_ofN(l:List Nd):may (ofN l)=l.all mayN:=by rw[may_nds,nds_ofN]
theorem isNil_len(f:Fo):isNil f=decide (len f=0):=by cases f<;>simp[isNil,len,nds]
end Go.Proofs.YteoijlfipmaoeaaGreatDoor.Trx
namespace Go.Proofs.YteoijlfipmaoeaaGreatDoor
open Go.RowKit Go.ChangeShapes Go.WideShapes Go.Deep Trx
open Go.Proofs.Tryz
def n64s(zs:List Int):List Value:=zs.map (Value.int .i64)
@[simp] theorem n64s_length(zs:List Int):(n64s zs).length=zs.length:=by simp[n64s]
def inI(n:Int):Prop:= -9223372036854775808<=n/\n<=9223372036854775807
def inU(n:Int):Prop:=0<=n/\n<=18446744073709551615
structure Pl where
 AL:Option Addr
 cL:Nat
 Ab:Option Addr
 cb:Nat
 Ae:Option Addr
 ce:Nat
def insC(n:Nd)(p:Pl):Array Value:=
 #[.int .i64 n.op,.int .i64 n.a,.int .i64 n.b,.int .u64 n.v,.int .i64 n.t,.slice p.AL n.L.length p.cL,.slice p.Ab (len n.body) p.cb,.slice p.Ae (len n.els) p.ce,.bool n.he]
structure NdNum(w:World)(B:Nat)(n:Nd)(p:Pl):Prop where
 op:inI n.op
 a:inI n.a
 b:inI n.b
 v:inU n.v
 t:inI n.t
 L:∀z∈n.L,inI z
 hL:n.L.length<=p.cL
 cL:p.cL<=maxLen
 sL:Sl w B p.AL (n64s n.L)
 hb:len n.body<=p.cb
 cb:p.cb<=maxLen
 he:len n.els<=p.ce
 ce:p.ce<=maxLen
def RdF(w:World)(B:Nat):Fo->Nat->Nat->Prop
 |.nil,_,_=>True
 |.cons op a b v t L body els he next,blk,off=>
  (blk<B/\∃p:Pl,(∀k,k<9->w.cell? ⟨blk,off+k,none⟩=(insC ⟨op,a,b,v,t,L,body,els,he⟩ p)[k]?)/\NdNum w B ⟨op,a,b,v,t,L,body,els,he⟩ p/\
   (body≠.nil->∃b' o',p.Ab=some ⟨b',o',none⟩/\RdF w B body b' o')/\(els≠.nil->∃b' o',p.Ae=some ⟨b',o',none⟩/\RdF w B els b' o'))/\RdF w B next blk (off+9)
def RdS(w:World)(B:Nat)(A:Option Addr)(f:Fo):Prop:=f≠.nil->∃b o,A=some ⟨b,o,none⟩/\RdF w B f b o
structure NdOk(w:World)(B:Nat)(n:Nd)(p:Pl):Prop where
 num:NdNum w B n p
 body:RdS w B p.Ab n.body
 els:RdS w B p.Ae n.els
structure NdAt(w:World)(B:Nat)(n:Nd)(p:Pl)(blk off:Nat):Prop where
 lt:blk<B
 cells:∀k,k<9->w.cell? ⟨blk,off+k,none⟩=(insC n p)[k]?
 ok:NdOk w B n p
theorem RdF.get{w:World}{B:Nat}{f:Fo}{blk off:Nat}(h:RdF w B f blk off){i:Nat}{n:Nd}(hi:(nds f)[i]? =some n):∃p,NdAt w B n p blk (off+i * 9):=by
 induction f generalizing off i with
 |nil=>simp[nds]at hi
 |cons op a b v t L body els he next _ _ ih=>
  obtain⟨⟨hlt,p,hc,hn,hb,he'⟩,hr⟩:=h
  cases i with
  |zero=>
   simp[nds]at hi
   subst hi
   exact⟨p,hlt,hc,hn,hb,he'⟩
  |succ i=>
   simp[nds]at hi
   obtain⟨p,hp⟩:=ih hr hi
   exact⟨p,by rw[show off+(i+1) * 9=off+9+i * 9 by omega];exact hp⟩
theorem RdF.mk{w:World}{B:Nat}{f:Fo}{blk off:Nat}(h:∀i n,(nds f)[i]? =some n->∃p,NdAt w B n p blk (off+i * 9)):RdF w B f blk off:=by
 induction f generalizing off with
 |nil=>trivial
 |cons op a b v t L body els he next _ _ ih=>
  obtain⟨p,hp⟩:=h 0 ⟨op,a,b,v,t,L,body,els,he⟩ (by simp[nds])
  refine⟨⟨hp.lt,p,hp.cells,hp.ok.num,hp.ok.body,hp.ok.els⟩,ih λi n hi=>?_⟩
  obtain⟨q,hq⟩:=h (i+1) n (by simpa[nds]using hi)
  exact⟨q,by rw[show off+9+i * 9=off+(i+1) * 9 by omega];exact hq⟩
theorem NdNum.keep{w w':World}{B B':Nat}{n:Nd}{p:Pl}(h:NdNum w B n p)(hB:B<=B')(hk:∀b o,b<B->w'.cell? ⟨b,o,none⟩=w.cell? ⟨b,o,none⟩):NdNum w' B' n p:=
 ⟨h.op,h.a,h.b,h.v,h.t,h.L,h.hL,h.cL,(h.sL.keep hk).more hB,h.hb,h.cb,h.he,h.ce⟩
theorem RdF.keep{w w':World}{B B':Nat}(hB:B<=B')(hk:∀b o,b<B->w'.cell? ⟨b,o,none⟩=w.cell? ⟨b,o,none⟩){f:Fo}{blk off:Nat}(h:RdF w B f blk off):RdF w' B' f blk off:=by
 induction f generalizing blk off with
 |nil=>trivial
 |cons op a b v t L body els he next ih1 ih2 ih3=>
  obtain⟨⟨hlt,p,hc,hn,hb,he'⟩,hr⟩:=h
  refine⟨⟨by omega,p,λk hk9=>(hk _ _ hlt).trans (hc k hk9),hn.keep hB hk,λhne=>?_,λhne=>?_⟩,ih3 hr⟩
  ·
   obtain⟨b',o',e,h'⟩:=hb hne
   exact⟨b',o',e,ih1 h'⟩
  ·
   obtain⟨b',o',e,h'⟩:=he' hne
   exact⟨b',o',e,ih2 h'⟩
section
variable{w w':World}{B B':Nat}{A:Option Addr}{f:Fo}{n:Nd}{p:Pl}{blk off:Nat}
theorem RdS.keep(hB:B<=B')(hk:∀b o,b<B->w'.cell? ⟨b,o,none⟩=w.cell? ⟨b,o,none⟩)(h:RdS w B A f):RdS w' B' A f:=λhne=>by
 obtain⟨b,o,e,h'⟩:=h hne
 exact⟨b,o,e,h'.keep hB hk⟩
theorem RdS.below(h:RdS w B A f)(hb:Below B w w'):RdS w' B A f:=h.keep (zq _) λb o hp=>hb.cell (p:=⟨b,o,none⟩) hp
theorem RdS.later(h:RdS w w.heap.size A f)(hb:Below w.heap.size w w'):RdS w' w'.heap.size A f:=h.keep hb.size λb o hp=>hb.cell (p:=⟨b,o,none⟩) hp
theorem NdOk.keep(hB:B<=B')(hk:∀b o,b<B->w'.cell? ⟨b,o,none⟩=w.cell? ⟨b,o,none⟩)(h:NdOk w B n p):NdOk w' B' n p:=⟨h.num.keep hB hk,h.body.keep hB hk,h.els.keep hB hk⟩
theorem NdOk.later(h:NdOk w w.heap.size n p)(hb:Below w.heap.size w w'):NdOk w' w'.heap.size n p:=h.keep hb.size λb o hp=>hb.cell (p:=⟨b,o,none⟩) hp
theorem NdAt.keep(hB:B<=B')(hk:∀b o,b<B->w'.cell? ⟨b,o,none⟩=w.cell? ⟨b,o,none⟩)(h:NdAt w B n p blk off):NdAt w' B' n p blk off:=
 ⟨zj h.lt hB,λk hk9=>(hk _ _ h.lt).trans (h.cells k hk9),h.ok.keep hB hk⟩
theorem NdAt.below(h:NdAt w B n p blk off)(hb:Below B w w'):NdAt w' B n p blk off:=h.keep (zq _) λb o hp=>hb.cell (p:=⟨b,o,none⟩) hp
theorem NdAt.nine(h:NdAt w B n p blk off):w.cell? ⟨blk,off,none⟩=some (.int .i64 n.op)/\w.cell? ⟨blk,off+1,none⟩=some (.int .i64 n.a)/\w.cell? ⟨blk,off+2,none⟩=some (.int .i64 n.b)/\
  w.cell? ⟨blk,off+3,none⟩=some (.int .u64 n.v)/\w.cell? ⟨blk,off+4,none⟩=some (.int .i64 n.t)/\w.cell? ⟨blk,off+5,none⟩=some (.slice p.AL n.L.length p.cL)/\
  w.cell? ⟨blk,off+6,none⟩=some (.slice p.Ab (len n.body) p.cb)/\w.cell? ⟨blk,off+7,none⟩=some (.slice p.Ae (len n.els) p.ce)/\w.cell? ⟨blk,off+8,none⟩=some (.bool n.he):=
 ⟨h.cells 0 (by omega),h.cells 1 (by omega),h.cells 2 (by omega),h.cells 3 (by omega),h.cells 4 (by omega),h.cells 5 (by omega),h.cells 6 (by omega),h.cells 7 (by omega),h.cells 8 (by omega)⟩
theorem RdS.nil_:RdS w B A .nil:=λh=>absurd rfl h
theorem RdS.more(h:RdS w B A f)(hB:B<=B'):RdS w B' A f:=h.keep hB λ_ _ _=>rfl
theorem NdOk.more(h:NdOk w B n p)(hB:B<=B'):NdOk w B' n p:=h.keep hB λ_ _ _=>rfl
theorem RdS.at_(h:RdS w B A f){i:Nat}(hi:i<len f):∃b o n p,A=some ⟨b,o,none⟩/\(nds f)[i]? =some n/\NdAt w B n p b (o+i * 9):=by
 obtain⟨b,o,e,h'⟩:=h (λe=>by subst e;simp at hi)
 obtain⟨p,hp⟩:=h'.get (zb (l:=nds f) hi)
 exact⟨b,o,_,p,e,zb hi,hp⟩
end
theorem inI_of{n:Int}(h:(Lit.int .i64 n).wf=true):inI n:=by have:=bounds_i64 h;unfold inI;omega
theorem inU_of{n:Int}(h:(Lit.int .u64 n).wf=true):inU n:=by have:=bounds_u64 h;unfold inU;omega
theorem list_of{α:Type}{Q:Nat->α->Prop}:∀m,(∀i,i<m->∃a,Q i a)->∃l:List α,l.length=m/\∀i a,l[i]? =some a->Q i a
 |0,_=>⟨[],rfl,by simp⟩
 |m+1,h=>by
  obtain⟨l,hl,hq⟩:=list_of m λi hi=>h i (by omega)
  obtain⟨a,ha⟩:=h m (by omega)
  refine⟨l++[a],by simp[hl],λi b hi=>?_⟩
  rcases qm i l.length with h1|h1
  ·
   rw[jx h1]at hi
   exact hq i b hi
  ·
   have h2:i=l.length:=by
    rcases qm i (l++[a]).length with h3|h3
    ·simp at h3;omega
    ·rw[qt h3]at hi;cases hi
   subst h2
   simp at hi
   subst hi
   rw[hl]
   exact ha
section
variable{H:Type}{enc:TypeId×Value->H}{w:World}{base:Nat}{spare:Nat->Bool}{held:Bool}
theorem open_n64{fuel:Nat}{cs:List Value}{x:DataW H×List MemPlace}(h:DataW.trod enc prog w base spare held fuel 52 cs=some x):
  ∃A zs c,cs=[.slice A zs.length c]/\zs.length<=c/\c<=maxLen/\(∀z∈zs,inI z)/\Sl w w.heap.size A (n64s zs):=by
 rcases open_ints underlying52 underlying3 (by kernel_rfl) h with⟨hcs,_⟩|⟨x,l,c,zs,hcs,_,hl,hm,hz,_,hcell,hwz⟩
 ·exact⟨none,[],0,hcs,zq _,qw _,by simp,Sl.nil_⟩
 ·
  have hz':l<=zs.length:=by rw[hz];split<;>omega
  refine⟨some x,zs.take l,c,by rw[hcs,qh,xr hz'],by rw[qh];omega,hm,λz hzm=>inI_of (hwz z (List.mem_of_mem_take hzm)),?_⟩
  exact ints_of_row (k:=.i64) hz' hcell
theorem cells_at{a:Addr}{k n:Nat}{cs:List Value}(h:w.cells? base (a.add k) n=some cs):cs.length=n/\∀j,j<n->w.cell? ((a.add k).add j)=cs[j]?:=by
 obtain⟨_,hcl,hat⟩:=World.cells?_some h
 exact⟨hcl,hat⟩
theorem cell_block_lt{a:Addr}{v:Value}(h:w.cell? a=some v):a.block<w.heap.size/\a.spot=none:=⟨zn _ _ h,World.cell?_spot h⟩
theorem add_at(b o k:Nat):(⟨b,o,none⟩:Addr).add k=⟨b,o+k,none⟩:=by unfold Addr.add;split<;>simp_all
end
def RB:Nat:=140737488351232
def Lw{H:Type}(P:Program)(t:TypeId)(d:DataW H):Prop:=∀y∈d.weights P t,y<=RB
section
variable{H:Type}{P:Program}
theorem weightsAll_mem{e:TypeId}{l:List (DataW H)}{d:DataW H}(h:d∈l){y:Nat}(hy:y∈d.weights P e):y∈DataW.weightsAll P e l:=by
 induction l with
 |nil=>cases h
 |cons a l ih=>
  rw[DataW.weightsAll,List.mem_append]
  rcases List.mem_cons.1 h with rfl|h
  ·exact .inl hy
  ·exact .inr (ih h)
theorem weightsEach_mem{ts:List TypeId}{l:List (DataW H)}{i:Nat}{t:TypeId}{d:DataW H}(ht:ts[i]? =some t)(hd:l[i]? =some d){y:Nat}(hy:y∈d.weights P t):y∈DataW.weightsEach P ts l:=by
 induction ts generalizing l i with
 |nil=>simp at ht
 |cons u ts ih=>
  cases l with
  |nil=>simp at hd
  |cons a l=>
   rw[DataW.weightsEach,List.mem_append]
   cases i with
   |zero=>
    simp at ht hd
    subst ht hd
    exact .inl hy
   |succ i=>
    simp at ht hd
    exact .inr (ih ht hd)
end
def RowsAt(w:World)(B:Nat)(A:Option Addr)(k:Nat)(rs:List (List Value)):Prop:=
 rs≠[]->∃b o,A=some ⟨b,o,none⟩/\b<B/\∀i r,rs[i]? =some r->∀j,j<k->w.cell? ⟨b,o+i * k+j,none⟩=r[j]?
section
variable{w w':World}{B B':Nat}{A:Option Addr}{k:Nat}{rs:List (List Value)}
theorem RowsAt.nil_:RowsAt w B A k []:=λh=>absurd rfl h
theorem RowsAt.keep(hB:B<=B')(hk:∀b o,b<B->w'.cell? ⟨b,o,none⟩=w.cell? ⟨b,o,none⟩)(h:RowsAt w B A k rs):RowsAt w' B' A k rs:=λhne=>by
 obtain⟨b,o,e,hb,hc⟩:=h hne
 exact⟨b,o,e,by omega,λi r hi j hj=>(hk _ _ hb).trans (hc i r hi j hj)⟩
theorem RowsAt.at_(h:RowsAt w B A k rs){i:Nat}{r:List Value}(hi:rs[i]? =some r):∃b o,A=some ⟨b,o,none⟩/\b<B/\∀j,j<k->w.cell? ⟨b,o+i * k+j,none⟩=r[j]?:=by
 obtain⟨b,o,e,hb,hc⟩:=h (λe=>by rw[e]at hi;simp at hi)
 exact⟨b,o,e,hb,hc i r hi⟩
end
section
variable{H:Type}{enc:TypeId×Value->H}{P:Program}{w:World}{base:Nat}{spare:Nat->Bool}{held:Bool}
theorem open_struct{e:TypeId}{fs:Array Field}{fuel:Nat}{cs:List Value}{x:DataW H×List MemPlace}(he:P.underlying e=some (.struct fs))(h:DataW.trod enc P w base spare held fuel e cs=some x)(hw:Lw P e x.1):
  ∃n,fuel=n+1/\cs.length=P.cellsOf e/\∀(i:Nat) (f:Field),fs[i]? =some f->∃y,DataW.trod enc P w base spare held n f.type ((cs.drop f.offset).take (P.cellsOf f.type))=some y/\Lw P f.type y.1:=by
 obtain⟨ys,n,hn,hy,hlen,hyl,hf⟩:=DataW.trod_struct he h
 refine⟨n,hn,hlen,λi f hi=>?_⟩
 have hil:i<fs.size:=(Array.getElem?_eq_some_iff.1 hi).1
 have hys:ys[i]? =some (ys[i]'(by omega)):=zb (by omega)
 refine⟨_,(hf i f hi).trans hys,λy hyw=>hw y ?_⟩
 subst hy
 show y∈DataW.weights P e (.agg (ys.map (·.1)))
 rw[DataW.weights,he]
 refine weightsEach_mem (i:=i) (t:=f.type) ?_ ?_ hyw
 ·rw[zr,Array.getElem?_toList,hi];rfl
 ·rw[zr,hys];rfl
theorem open_rows{α:Type}(cells:α->List Value)(ok:α->Prop){t e:TypeId}(k:Nat)(ht:P.underlying t=some (.slice e))(hk:P.cellsOf e=k)(hpos:0<k){fuel:Nat}{cs:List Value}{x:DataW H×List MemPlace}
  (hopen:∀n cs x,n<fuel->DataW.trod enc P w base spare held n e cs=some x->Lw P e x.1->∃a,cs=cells a/\ok a) (hlen:∀a,(cells a).length=k)
  (h:DataW.trod enc P w base spare held fuel t cs=some x) (hw:Lw P t x.1):
  ∃A l c,cs=[.slice A (List.length l) c]/\l.length<=c/\c<=maxLen/\l.length * P.bytesOf e<=RB/\RowsAt w w.heap.size A k (l.map cells)/\∀a∈l,ok a:=by
 rcases DataW.trod_slice ht h with⟨h0,-⟩|⟨a,l,cap,elems,rest,n,hn,hcs,hx,hb,hl,hm,hlen',hel,-,-⟩
 ·exact⟨none,[],0,h0,zq _,qw _,by simp,RowsAt.nil_,by simp⟩
 ·
  subst hx
  have hwt:DataW.weights P t (.slice (elems.map (·.1)) (rest.map (·.1)))=(l+rest.length) * P.bytesOf e::(DataW.weightsAll P e (elems.map (·.1))++DataW.weightsAll P e (rest.map (·.1))):=by
   rw[DataW.weights,ht];simp[hlen']
  rw[hk]at hel
  have hone:∀i,i<l->∃v:α,(∀j,j<k->w.cell? ((a.add (i * k)).add j)=(cells v)[j]?)/\ok v:=by
   intro i hi
   have h1:=hel i hi
   have hei:elems[i]? =some (elems[i]'(by omega)):=zb (by omega)
   rw[hei,Option.bind_eq_some_iff]at h1
   obtain⟨cs',h2,h3⟩:=h1
   obtain⟨v,rfl,hok⟩:=hopen n _ _ (by omega) h3 (λy hy=>hw y (by
    rw[hwt]
    refine xj _ (List.mem_append_left _ (weightsAll_mem ?_ hy))
    exact qp (jf (by omega))))
   exact⟨v,λj hj=>(cells_at h2).2 j hj,hok⟩
  obtain⟨ns,hns,hq⟩:=list_of l hone
  refine⟨some a,ns,cap,by rw[hcs,hns],by rw[hns];exact hl,hm,?_,λhne=>?_,λv hv=>?_⟩
  ·
   have:=hw ((l+rest.length) * P.bytesOf e) (by rw[hwt];exact jo)
   rw[hns]
   exact zy (Nat.mul_le_mul_right _ (Nat.le_add_right _ _)) this
  ·
   have hpos':0<ns.length:=by
    rcases jh ns.length with h0|h0
    ·
     rw[zc h0]at hne
     exact absurd rfl hne
    ·exact h0
   obtain⟨hc0,-⟩:=hq 0 _ (zb hpos')
   obtain⟨blk,off,spot⟩:=a
   have h00:=hc0 0 hpos
   have hsome:(cells ns[0])[0]? =some ((cells ns[0])[0]'(by rw[hlen];exact hpos)):=zb _
   have hs:spot=none:=by
    have:=(cell_block_lt (h00.trans hsome)).2
    simpa[Addr.add]using this
   have hbl:blk<w.heap.size:=by
    have:=(cell_block_lt (h00.trans hsome)).1
    simpa[Addr.add]using this
   subst hs
   refine⟨blk,off,rfl,hbl,λi r hi j hj=>?_⟩
   rw[zr]at hi
   obtain⟨v,hv,rfl⟩:=Option.map_eq_some_iff.1 hi
   obtain⟨hc,-⟩:=hq i v hv
   rw[<-hc j hj,add_at,add_at]
  ·
   obtain⟨i,hi,hv'⟩:=List.getElem_of_mem hv
   exact(hq i v (by rw[zb hi,hv'])).2
end
def allC(f:Nat->Option Value):Nat->List Value->Prop
 |_,[]=>True
 |i,v::r=>f i=some v/\allC f (i+1) r
theorem allC_of{f:Nat->Option Value}{L:List Value}:∀(M:List Value) (k:Nat),L.drop k=M->(∀i,i<L.length->f i=L[i]?)->allC f k M
 | [],_,_,_=>trivial
 |v::r,k,e,h=>by
  have hk:L[k]? =some v:=by
   have:=jk (xs:=L) (i:=k) (j:=0)
   rw[e]at this
   simpa using this.symm
  have hlt:=(List.getElem?_eq_some_iff.1 hk).1
  refine⟨(h k hlt).trans hk,allC_of r (k+1) ?_ h⟩
  rw[<-jd,e];rfl
theorem row_of{w0 w1:World}{p o k:Nat}{L:List Value}(hb:Below w0.heap.size w0 w1)(hp:p<w0.heap.size)(h:∀i,i<k->w0.cell? ⟨p,o+i,none⟩=L[i]?)(hk:L.length=k:=by rfl):allC (λi=>w1.cell? ⟨p,o+i,none⟩) 0 L:=
 allC_of L 0 rfl λi hi=>(hb.cell (p:=⟨p,o+i,none⟩) hp).trans (h i (by omega))
end Go.Proofs.YteoijlfipmaoeaaGreatDoor
namespace Go.Proofs.YteoijlfipmaoeaaGreatDoor
open Lib (hid)
open Go.RowKit Trx
open Go.Proofs.Tryz
theorem wr0:wrap64 0=0:=by unfold wrap64;omega
theorem wr4(n a b:Nat):wrap64 (wrap64 (wrap64 (wrap64 (n:Int)+1)+wrap64 (a:Int))+wrap64 (b:Int))=wrap64 ((n+1+a+b:Nat):Int):=by
 unfold wrap64;omega
theorem refCount_any(k:Nat):∀(f:Fo) (A:Option Addr) (c:Nat) (w:World),cnt f<=k->RdS w w.heap.size A f->len f<=maxLen->
  Calls prog 56 #[.slice A (len f) c] w λe w'=>e=.returned (.tuple #[.int .i64 (wrap64 (cnt f)),.int .i64 (dp f)])/\w=w':=by
 induction k using Nat.strongRecOn with
 |ind k ih=>
  intro f A c w hk hr hm
  unfold maxLen at hm
  have HR:=hid hr
  have HIH:=hid ih
  clear ih hr
  go_enter func56,ntmps56
  go_wp2_with fail
  go_loop [4,5,6] (λn d i=>∃j:Nat,j<=len f/\i=.int .i64 j/\n=.int .i64 (wrap64 (cnt (ofN ((nds f).take j))))/\d=.int .i64 (dp (ofN ((nds f).take j)))) (λ_ _ i=>len f-(intOf i).toNat)
  case atStart=>exact⟨0,by omega,rfl,by simp[ofN,cnt,wr0],by simp[ofN,dp]⟩
  case round=>
   obtain⟨j,hj,rfl,rfl,rfl⟩:=hrel
   by_cases hlt:j<len f
   ·
    obtain⟨b,o,n,p,rfl,hn,hat⟩:=HR.out.at_ hlt
    obtain⟨q0,-,-,-,-,-,q6,q7,-⟩:=hat.nine
    have hb:=hat.lt
    have hmem:n∈nds f:=zu hn
    obtain⟨hc1,hc2⟩:=cnt_mem hmem
    have hok:=hat.ok
    have HB:=hid (HIH.out _ (zj hc1 hk) n.body p.Ab p.cb w (zq _) hok.body (zy hok.num.hb hok.num.cb))
    have HE:=hid (HIH.out _ (zj hc2 hk) n.els p.Ae p.ce w (zq _) hok.els (zy hok.num.he hok.num.ce))
    have hts:(nds f).take (j+1)=(nds f).take j++[n]:=by
     rw[qs,hn];rfl
    have HC:=hid (cnt_snoc ((nds f).take j) n)
    have HD1:=hid (dp_snoc_blk ((nds f).take j) n)
    have HD2:=hid (dp_snoc_not ((nds f).take j) n)
    rw[<-hts]at HC HD1 HD2
    have hinb:=hok.num.op
    clear hmem hc1 hc2 hok hat hts hn HIH
    unfold inI at hinb
    go_wp2_with(first
     |(go_at_call 56;((with_reducible refine HB.out.mono ?_);rintro e w' ⟨rfl,rfl⟩))
     |(go_at_call 56;((with_reducible refine HE.out.mono ?_);rintro e w' ⟨rfl,rfl⟩)))
    all_goals
     go_round
     case rel=>exact⟨j+1,by omega,by go_num,by rw[HC.out,wr4],by
      first
      |(rw[HD1.out (by simp[isBlk];omega)];unfold up1;congr 1;omega)
      |(rw[HD2.out (by simp[isBlk];omega)])⟩
     case measure=>simp[intOf];omega
   ·
    have hj':j=(nds f).length:=by unfold len at *;omega
    have HT:=hid (zo (l:=nds f) (i:=j) (by omega))
    clear hj'
    go_wp2_with fail
    go_ret2
    exact⟨by rw[HT.out,ofN_nds];rfl,rfl⟩
end Go.Proofs.YteoijlfipmaoeaaGreatDoor
namespace Go.Proofs.YteoijlfipmaoeaaGreatDoor
open Go.RowKit Go.ChangeShapes Go.WideShapes Go.Deep Trx
open Go.Proofs.Tryz
def Light:Fo->Prop
 |.nil=>True
 |.cons _ _ _ _ _ L body els _ next=>(L.length * 8<=RB/\len body * 120<=RB/\len els * 120<=RB)/\Light body/\Light els/\Light next
structure LightN(n:Nd):Prop where
 L:n.L.length * 8<=RB
 b:len n.body * 120<=RB
 e:len n.els * 120<=RB
 body:Light n.body
 els:Light n.els
theorem Light.mem{f:Fo}(h:Light f){n:Nd}(hn:n∈nds f):LightN n:=by
 induction f with
 |nil=>simp[nds]at hn
 |cons op a b v t L body els he next _ _ ih=>
  simp only[nds,List.mem_cons]at hn
  rcases hn with rfl|hn
  ·exact⟨h.1.1,h.1.2.1,h.1.2.2,h.2.1,h.2.2.1⟩
  ·exact ih h.2.2.2 hn
theorem Light.mk{l:List Nd}(h:∀n∈l,LightN n):Light (ofN l):=by
 induction l with
 |nil=>trivial
 |cons n l ih=>
  have h0:=h n jo
  exact⟨⟨h0.L,h0.b,h0.e⟩,h0.body,h0.els,ih λm hm=>h m (xj _ hm)⟩
structure IL where
 zs:List Int
 A:Option Addr
 c:Nat
@[reducible] def IL.v(l:IL):Value:=.slice l.A l.zs.length l.c
structure IL.ok(w:World)(B:Nat)(l:IL):Prop where
 le:l.zs.length<=l.c
 c:l.c<=maxLen
 rb:l.zs.length * 8<=RB
 inI:∀z∈l.zs,inI z
 sl:Sl w B l.A (n64s l.zs)
structure BL where
 bs:List UInt8
 A:Option Addr
 c:Nat
@[reducible] def BL.v(l:BL):Value:=.slice l.A l.bs.length l.c
structure BL.ok(w:World)(B:Nat)(l:BL):Prop where
 le:l.bs.length<=l.c
 c:l.c<=maxLen
 rb:l.bs.length<=RB
 sl:Sl w B l.A (u8s l.bs)
structure FL where
 f:Fo
 A:Option Addr
 c:Nat
@[reducible] def FL.v(l:FL):Value:=.slice l.A (len l.f) l.c
structure FL.ok(w:World)(B:Nat)(l:FL):Prop where
 le:len l.f<=l.c
 c:l.c<=maxLen
 rb:len l.f * 120<=RB
 light:Light l.f
 rd:RdS w B l.A l.f
structure StrOk(s:ByteArray):Prop where
 m:s.size<=maxLen
 rb:s.size<=RB
structure Ty where
 p:IL
 r:IL
def Ty.cells(t:Ty):List Value:=[t.p.v,t.r.v]
structure Ty.ok(w:World)(B:Nat)(t:Ty):Prop where
 p:t.p.ok w B
 r:t.r.ok w B
structure Lm where
 mn:Int
 mx:Int
 hs:Bool
deriving DecidableEq
def Lm.cells(l:Lm):List Value:=[.int .i64 l.mn,.int .i64 l.mx,.bool l.hs]
structure Lm.ok(l:Lm):Prop where
 mn:inI l.mn
 mx:inI l.mx
structure Im where
 md:ByteArray
 nm:ByteArray
 kd:Int
 ty:Int
 mu:Bool
 lm:Lm
deriving DecidableEq
def Im.cells(i:Im):List Value:=[.string i.md,.string i.nm,.int .i64 i.kd,.int .i64 i.ty,.bool i.mu,.int .i64 i.lm.mn,.int .i64 i.lm.mx,.bool i.lm.hs]
structure Im.ok(i:Im):Prop where
 md:StrOk i.md
 nm:StrOk i.nm
 kd:inI i.kd
 ty:inI i.ty
 lm:i.lm.ok
structure Fn where
 ty:Int
 lo:IL
 bo:FL
def Fn.cells(f:Fn):List Value:=[.int .i64 f.ty,f.lo.v,f.bo.v]
structure Fn.ok(w:World)(B:Nat)(f:Fn):Prop where
 ty:inI f.ty
 lo:f.lo.ok w B
 bo:f.bo.ok w B
structure In where
 n:Nd
 p:Pl
@[reducible] def In.cells(i:In):List Value:=(insC i.n i.p).toList
structure In.ok(w:World)(B:Nat)(i:In):Prop where
 nd:NdOk w B i.n i.p
 light:LightN i.n
structure Gl where
 ty:Int
 mu:Bool
 i:In
def Gl.cells(g:Gl):List Value:=.int .i64 g.ty::.bool g.mu::g.i.cells
structure Gl.ok(w:World)(B:Nat)(g:Gl):Prop where
 ty:inI g.ty
 i:g.i.ok w B
structure Ex where
 nm:ByteArray
 kd:Int
 ix:Int
deriving DecidableEq
def Ex.cells(e:Ex):List Value:=[.string e.nm,.int .i64 e.kd,.int .i64 e.ix]
structure Ex.ok(e:Ex):Prop where
 nm:StrOk e.nm
 kd:inI e.kd
 ix:inI e.ix
structure El where
 i:In
 fs:IL
def El.cells(e:El):List Value:=e.i.cells++[e.fs.v]
structure El.ok(w:World)(B:Nat)(e:El):Prop where
 i:e.i.ok w B
 fs:e.fs.ok w B
structure Da where
 i:In
 bs:BL
def Da.cells(d:Da):List Value:=d.i.cells++[d.bs.v]
structure Da.ok(w:World)(B:Nat)(d:Da):Prop where
 i:d.i.ok w B
 bs:d.bs.ok w B
structure Cu where
 nm:ByteArray
 bs:BL
def Cu.cells(c:Cu):List Value:=[.string c.nm,c.bs.v]
structure Cu.ok(w:World)(B:Nat)(c:Cu):Prop where
 nm:StrOk c.nm
 bs:c.bs.ok w B
structure SL(α:Type) where
 l:List α
 A:Option Addr
 c:Nat
@[reducible] def SL.v{α:Type}(s:SL α):Value:=.slice s.A s.l.length s.c
structure SL.ok{α:Type}(cells:α->List Value)(q:World->Nat->α->Prop)(k by_:Nat)(w:World)(B:Nat)(s:SL α):Prop where
 le:s.l.length<=s.c
 c:s.c<=maxLen
 rb:s.l.length * by_<=RB
 rows:RowsAt w B s.A k (s.l.map cells)
 all:∀a∈s.l,q w B a
structure Mo where
 ty:SL Ty
 im:SL Im
 fn:SL Fn
 ta:SL Lm
 me:SL Lm
 gl:SL Gl
 ex:SL Ex
 st:Int
 el:SL El
 da:SL Da
 cu:SL Cu
@[reducible] def Mo.cells(m:Mo):List Value:=[m.ty.v,m.im.v,m.fn.v,m.ta.v,m.me.v,m.gl.v,m.ex.v,.int .i64 m.st,m.el.v,m.da.v,m.cu.v]
structure Mo.ok(w:World)(B:Nat)(m:Mo):Prop where
 ty:m.ty.ok Ty.cells Ty.ok 2 48 w B
 im:m.im.ok Im.cells (λ_ _=>Im.ok) 8 80 w B
 fn:m.fn.ok Fn.cells Fn.ok 3 56 w B
 ta:m.ta.ok Lm.cells (λ_ _=>Lm.ok) 3 24 w B
 me:m.me.ok Lm.cells (λ_ _=>Lm.ok) 3 24 w B
 gl:m.gl.ok Gl.cells Gl.ok 11 136 w B
 ex:m.ex.ok Ex.cells (λ_ _=>Ex.ok) 3 32 w B
 st:inI m.st
 el:m.el.ok El.cells El.ok 10 144 w B
 da:m.da.ok Da.cells Da.ok 10 144 w B
 cu:m.cu.ok Cu.cells Cu.ok 2 40 w B
section
variable{w w':World}{B B':Nat}
def KpB(w w':World)(B:Nat):Prop:=∀b o,b<B->w'.cell? ⟨b,o,none⟩=w.cell? ⟨b,o,none⟩
theorem Below.kp(h:Below B w w'):KpB w w' B:=λb o hp=>h.cell (p:=⟨b,o,none⟩) hp
theorem IL.ok.keep{l:IL}(h:l.ok w B)(hB:B<=B')(hk:KpB w w' B):l.ok w' B':=⟨h.le,h.c,h.rb,h.inI,(h.sl.keep hk).more hB⟩
theorem BL.ok.keep{l:BL}(h:l.ok w B)(hB:B<=B')(hk:KpB w w' B):l.ok w' B':=⟨h.le,h.c,h.rb,(h.sl.keep hk).more hB⟩
theorem FL.ok.keep{l:FL}(h:l.ok w B)(hB:B<=B')(hk:KpB w w' B):l.ok w' B':=⟨h.le,h.c,h.rb,h.light,h.rd.keep hB hk⟩
theorem In.ok.keep{l:In}(h:l.ok w B)(hB:B<=B')(hk:KpB w w' B):l.ok w' B':=⟨h.nd.keep hB hk,h.light⟩
theorem Ty.ok.keep{l:Ty}(h:l.ok w B)(hB:B<=B')(hk:KpB w w' B):l.ok w' B':=⟨h.p.keep hB hk,h.r.keep hB hk⟩
theorem Fn.ok.keep{l:Fn}(h:l.ok w B)(hB:B<=B')(hk:KpB w w' B):l.ok w' B':=⟨h.ty,h.lo.keep hB hk,h.bo.keep hB hk⟩
theorem Gl.ok.keep{l:Gl}(h:l.ok w B)(hB:B<=B')(hk:KpB w w' B):l.ok w' B':=⟨h.ty,h.i.keep hB hk⟩
theorem El.ok.keep{l:El}(h:l.ok w B)(hB:B<=B')(hk:KpB w w' B):l.ok w' B':=⟨h.i.keep hB hk,h.fs.keep hB hk⟩
theorem Da.ok.keep{l:Da}(h:l.ok w B)(hB:B<=B')(hk:KpB w w' B):l.ok w' B':=⟨h.i.keep hB hk,h.bs.keep hB hk⟩
theorem Cu.ok.keep{l:Cu}(h:l.ok w B)(hB:B<=B')(hk:KpB w w' B):l.ok w' B':=⟨h.nm,h.bs.keep hB hk⟩
theorem SL.ok.keep{α:Type}{cells:α->List Value}{ok:World->Nat->α->Prop}{k y:Nat}{s:SL α}(h:s.ok cells ok k y w B)(hB:B<=B')(hk:KpB w w' B)(ho:∀a,ok w B a->ok w' B' a):s.ok cells ok k y w' B':=
 ⟨h.le,h.c,h.rb,h.rows.keep hB hk,λa ha=>ho a (h.all a ha)⟩
theorem Mo.ok.keep{m:Mo}(h:m.ok w B)(hB:B<=B')(hk:KpB w w' B):m.ok w' B':=
 ⟨h.ty.keep hB hk λ_ h=>h.keep hB hk,h.im.keep hB hk λ_ h=>h,h.fn.keep hB hk λ_ h=>h.keep hB hk,h.ta.keep hB hk λ_ h=>h,h.me.keep hB hk λ_ h=>h,h.gl.keep hB hk λ_ h=>h.keep hB hk,
  h.ex.keep hB hk λ_ h=>h,h.st,h.el.keep hB hk λ_ h=>h.keep hB hk,h.da.keep hB hk λ_ h=>h.keep hB hk,h.cu.keep hB hk λ_ h=>h.keep hB hk⟩
theorem Mo.ok.below{m:Mo}(h:m.ok w w.heap.size)(hb:Below w.heap.size w w'):m.ok w' w'.heap.size:=h.keep hb.size (Below.kp hb)
end
section
variable{H:Type}{enc:TypeId×Value->H}{w:World}{base:Nat}{spare:Nat->Bool}{held:Bool}
theorem fld{P:Program}{fs:Array Field}{n:Nat}{cs:List Value}(hf:∀(i:Nat) (f:Field),fs[i]? =some f->∃y,DataW.trod enc P w base spare held n f.type ((cs.drop f.offset).take (P.cellsOf f.type))=some y/\Lw P f.type y.1)
  (i:Nat) (t:TypeId) (o k:Nat) (h:(fs[i]?).map (λf=>(f.type,f.offset))=some (t,o)) (hk:P.cellsOf t=k):∃y,DataW.trod enc P w base spare held n t ((cs.drop o).take k)=some y/\Lw P t y.1:=by
 obtain⟨f,hf1,hf2⟩:=Option.map_eq_some_iff.1 h
 simp only[Prod.mk.injEq]at hf2
 obtain⟨rfl,rfl⟩:=hf2
 subst hk
 exact hf i f hf1
theorem open_str{fuel:Nat}{cs:List Value}{x:DataW H×List MemPlace}(h:DataW.trod enc prog w base spare held fuel 9 cs=some x)(hw:Lw prog 9 x.1):∃s:ByteArray,cs=[.string s]/\StrOk s:=by
 obtain⟨s,rfl,hx,hm⟩:=DataW.trod_string underlying9 h
 refine⟨s,rfl,hm,?_⟩
 have:=hw s.size (by rw[hx];simp[DataW.weights])
 exact this
theorem open_int{fuel:Nat}{cs:List Value}{x:DataW H×List MemPlace}(h:DataW.trod enc prog w base spare held fuel 3 cs=some x):∃n,cs=[.int .i64 n]/\inI n:=by
 obtain⟨n,rfl,-,hw⟩:=DataW.trod_int (k:=.i64) underlying3 h
 exact⟨n,rfl,inI_of hw⟩
theorem open_boo{fuel:Nat}{cs:List Value}{x:DataW H×List MemPlace}(h:DataW.trod enc prog w base spare held fuel 4 cs=some x):∃b,cs=[.bool b]:=by
 obtain⟨b,rfl,-⟩:=DataW.trod_bool underlying4 h
 exact⟨b,rfl⟩
theorem slice_lw{t e:TypeId}{fuel:Nat}{P:Program}{cs:List Value}{x:DataW H×List MemPlace}{A:Option Addr}{n c:Nat}(ht:P.underlying t=some (.slice e))(h:DataW.trod enc P w base spare held fuel t cs=some x)(hcs:cs=[.slice A n c])(hw:Lw P t x.1):n * P.bytesOf e<=RB:=by
 rcases DataW.trod_slice ht h with⟨h0,-⟩|⟨a,l,cap,elems,rest,m,hn,hcs',hx,hb,hl,hm,hlen',hel,-,-⟩
 ·
  rw[h0]at hcs
  simp at hcs
  simp[<-hcs.2.1]
 ·
  rw[hcs']at hcs
  simp at hcs
  obtain⟨-,rfl,-⟩:=hcs
  have:=hw ((l+rest.length) * P.bytesOf e) (by rw[hx];show _∈DataW.weights P t (.slice (elems.map (·.1)) (rest.map (·.1)));rw[DataW.weights,ht];simp[hlen'])
  exact zy (Nat.mul_le_mul_right _ (Nat.le_add_right _ _)) this
theorem open_il{fuel:Nat}{cs:List Value}{x:DataW H×List MemPlace}(h:DataW.trod enc prog w base spare held fuel 52 cs=some x)(hw:Lw prog 52 x.1):∃l:IL,cs=[l.v]/\l.ok w w.heap.size:=by
 obtain⟨A,zs,c,hcs,hl,hm,hz,hs⟩:=open_n64 h
 exact⟨⟨zs,A,c⟩,hcs,hl,hm,by have:=slice_lw underlying52 h hcs hw;rwa[show prog.bytesOf 3=8 by kernel_rfl]at this,hz,hs⟩
theorem open_bl{fuel:Nat}{cs:List Value}{x:DataW H×List MemPlace}(h:DataW.trod enc prog w base spare held fuel 35 cs=some x)(hw:Lw prog 35 x.1):∃l:BL,cs=[l.v]/\l.ok w w.heap.size:=by
 have h':=h
 rcases open_ints underlying35 underlying5 (by kernel_rfl) h with⟨hcs,_⟩|⟨x,l,c,zs,hcs,_,hl,hm,hz,_,hcell,hwz⟩
 ·exact⟨⟨[],none,0⟩,hcs,zq _,qw _,qw _,Sl.nil_⟩
 ·
  have hz':l<=zs.length:=by rw[hz];split<;>omega
  obtain⟨bs,hb1,hb2⟩:=bytes_of_row (len:=l) hz' hcell hwz
  have hrb:=slice_lw underlying35 h' hcs hw
  rw[show prog.bytesOf 5=1 by kernel_rfl]at hrb
  exact⟨⟨bs,some x,c⟩,by rw[hcs,<-hb1],by rw[hb1];exact hl,hm,by show bs.length<=RB;omega,hb2⟩
theorem open_in_of(N:Nat)(ih:∀m,m<N->∀(cs:List Value) (x:DataW H×List MemPlace),DataW.trod enc prog w base spare held m 53 cs=some x->Lw prog 53 x.1->∃l:FL,cs=[l.v]/\l.ok w w.heap.size)
  {fuel:Nat} (hN:fuel<=N) {cs:List Value} {x:DataW H×List MemPlace} (h:DataW.trod enc prog w base spare held fuel 59 cs=some x) (hw:Lw prog 59 x.1):
  ∃i:In,cs=i.cells/\i.ok w w.heap.size:=by
 obtain⟨n,hn,hl,hf⟩:=open_struct underlying59 h hw
 have hl9:cs.length=9:=hl.trans (by kernel_rfl)
 obtain⟨y0,t0,-⟩:=fld hf 0 3 0 1 rfl (by kernel_rfl)
 obtain⟨y1,t1,-⟩:=fld hf 1 3 1 1 rfl (by kernel_rfl)
 obtain⟨y2,t2,-⟩:=fld hf 2 3 2 1 rfl (by kernel_rfl)
 obtain⟨y3,t3,-⟩:=fld hf 3 57 3 1 rfl (by kernel_rfl)
 obtain⟨y4,t4,-⟩:=fld hf 4 3 4 1 rfl (by kernel_rfl)
 obtain⟨y5,t5,u5⟩:=fld hf 5 52 5 1 rfl (by kernel_rfl)
 obtain⟨y6,t6,u6⟩:=fld hf 6 53 6 1 rfl (by kernel_rfl)
 obtain⟨y7,t7,u7⟩:=fld hf 7 53 7 1 rfl (by kernel_rfl)
 obtain⟨y8,t8,-⟩:=fld hf 8 4 8 1 rfl (by kernel_rfl)
 clear hf hl
 match cs,hl9 with
 | [c0,c1,c2,c3,c4,c5,c6,c7,c8],_=>
  obtain⟨op,e0,w0⟩:=open_int t0
  obtain⟨a,e1,w1⟩:=open_int t1
  obtain⟨b,e2,w2⟩:=open_int t2
  obtain⟨v,e3,-,w3⟩:=DataW.trod_int (k:=.u64) underlying57 t3
  obtain⟨t,e4,w4⟩:=open_int t4
  obtain⟨L,e5,o5⟩:=open_il t5 u5
  obtain⟨fb,e6,o6⟩:=ih n (by omega) _ _ t6 u6
  obtain⟨fe,e7,o7⟩:=ih n (by omega) _ _ t7 u7
  obtain⟨he,e8⟩:=open_boo t8
  simp at e0 e1 e2 e3 e4 e5 e6 e7 e8
  subst e0 e1 e2 e3 e4 e5 e6 e7 e8
  exact⟨⟨⟨op,a,b,v,t,L.zs,fb.f,fe.f,he⟩,⟨L.A,L.c,fb.A,fb.c,fe.A,fe.c⟩⟩,rfl,⟨⟨w0,w1,w2,inU_of w3,w4,o5.inI,o5.le,o5.c,o5.sl,o6.le,o6.c,o7.le,o7.c⟩,o6.rd,o7.rd⟩,⟨o5.rb,o6.rb,o7.rb,o6.light,o7.light⟩⟩
theorem open_fl(fuel:Nat):∀(cs:List Value) (x:DataW H×List MemPlace),DataW.trod enc prog w base spare held fuel 53 cs=some x->Lw prog 53 x.1->∃l:FL,cs=[l.v]/\l.ok w w.heap.size:=by
 induction fuel using Nat.strongRecOn with
 |ind fuel ih=>
  intro cs x h hw
  obtain⟨A,l,c,hcs,hl,hm,hrb,hrows,hall⟩:=open_rows In.cells (λi=>i.ok w w.heap.size) 9 underlying53 (by kernel_rfl) (by omega) (λn cs x hn h hw=>open_in_of fuel (λm hm cs x=>ih m hm cs x) (by omega) h hw) (λ_=>rfl) h hw
  rw[show prog.bytesOf 59=120 by kernel_rfl]at hrb
  have hlen:len (ofN (l.map (·.n)))=l.length:=by simp
  refine⟨⟨ofN (l.map (·.n)),A,c⟩,by rw[hcs];show _=[Value.slice A (len (ofN (l.map (·.n)))) c];rw[hlen],by rw[hlen];exact hl,hm,by rw[hlen];exact hrb,Light.mk λn hn=>?_,λhne=>?_⟩
  ·
   obtain⟨i,hi,rfl⟩:=List.mem_map.1 hn
   exact(hall i hi).light
  ·
   obtain⟨b,o,e,hb,hc⟩:=hrows (λe=>hne (by
    have:l=[]:=by simpa using e
    subst this;rfl))
   refine⟨b,o,e,RdF.mk λi n hi=>?_⟩
   rw[nds_ofN,zr]at hi
   obtain⟨v,hv,rfl⟩:=Option.map_eq_some_iff.1 hi
   refine⟨v.p,hb,λk hk=>?_,(hall v (zu hv)).nd⟩
   rw[hc i v.cells (by rw[zr,hv];rfl) k hk]
   simp
theorem open_in{fuel:Nat}{cs:List Value}{x:DataW H×List MemPlace}(h:DataW.trod enc prog w base spare held fuel 59 cs=some x)(hw:Lw prog 59 x.1):∃i:In,cs=i.cells/\i.ok w w.heap.size:=
 open_in_of fuel (λm _ cs x=>open_fl m cs x) (zq _) h hw
theorem open_lm{fuel:Nat}{cs:List Value}{x:DataW H×List MemPlace}(h:DataW.trod enc prog w base spare held fuel 75 cs=some x)(hw:Lw prog 75 x.1):∃l:Lm,cs=l.cells/\l.ok:=by
 obtain⟨n,hn,hl,hf⟩:=open_struct underlying75 h hw
 have hl':cs.length=3:=hl.trans (by kernel_rfl)
 obtain⟨y0,t0,-⟩:=fld hf 0 3 0 1 rfl (by kernel_rfl)
 obtain⟨y1,t1,-⟩:=fld hf 1 3 1 1 rfl (by kernel_rfl)
 obtain⟨y2,t2,-⟩:=fld hf 2 4 2 1 rfl (by kernel_rfl)
 clear hf hl h
 match cs,hl' with
 | [c0,c1,c2],_=>
  obtain⟨a,e0,w0⟩:=open_int t0
  obtain⟨b,e1,w1⟩:=open_int t1
  obtain⟨c,e2⟩:=open_boo t2
  simp at e0 e1 e2
  subst e0 e1 e2
  exact⟨⟨a,b,c⟩,rfl,w0,w1⟩
theorem open_ty{fuel:Nat}{cs:List Value}{x:DataW H×List MemPlace}(h:DataW.trod enc prog w base spare held fuel 73 cs=some x)(hw:Lw prog 73 x.1):∃l:Ty,cs=l.cells/\l.ok w w.heap.size:=by
 obtain⟨n,hn,hl,hf⟩:=open_struct underlying73 h hw
 have hl':cs.length=2:=hl.trans (by kernel_rfl)
 obtain⟨y0,t0,u0⟩:=fld hf 0 52 0 1 rfl (by kernel_rfl)
 obtain⟨y1,t1,u1⟩:=fld hf 1 52 1 1 rfl (by kernel_rfl)
 clear hf hl h
 match cs,hl' with
 | [c0,c1],_=>
  obtain⟨a,e0,w0⟩:=open_il t0 u0
  obtain⟨b,e1,w1⟩:=open_il t1 u1
  simp at e0 e1
  subst e0 e1
  exact⟨⟨a,b⟩,rfl,w0,w1⟩
theorem open_im{fuel:Nat}{cs:List Value}{x:DataW H×List MemPlace}(h:DataW.trod enc prog w base spare held fuel 77 cs=some x)(hw:Lw prog 77 x.1):∃l:Im,cs=l.cells/\l.ok:=by
 obtain⟨n,hn,hl,hf⟩:=open_struct underlying77 h hw
 have hl':cs.length=8:=hl.trans (by kernel_rfl)
 obtain⟨y0,t0,u0⟩:=fld hf 0 9 0 1 rfl (by kernel_rfl)
 obtain⟨y1,t1,u1⟩:=fld hf 1 9 1 1 rfl (by kernel_rfl)
 obtain⟨y2,t2,-⟩:=fld hf 2 3 2 1 rfl (by kernel_rfl)
 obtain⟨y3,t3,-⟩:=fld hf 3 3 3 1 rfl (by kernel_rfl)
 obtain⟨y4,t4,-⟩:=fld hf 4 4 4 1 rfl (by kernel_rfl)
 obtain⟨y5,t5,u5⟩:=fld hf 5 75 5 3 rfl (by kernel_rfl)
 clear hf hl h
 match cs,hl' with
 | [c0,c1,c2,c3,c4,c5,c6,c7],_=>
  obtain⟨a0,e0,w0⟩:=open_str t0 u0
  obtain⟨a1,e1,w1⟩:=open_str t1 u1
  obtain⟨a2,e2,w2⟩:=open_int t2
  obtain⟨a3,e3,w3⟩:=open_int t3
  obtain⟨a4,e4⟩:=open_boo t4
  obtain⟨a5,e5,w5⟩:=open_lm t5 u5
  simp[Lm.cells]at e0 e1 e2 e3 e4 e5
  obtain⟨e5,e6,e7⟩:=e5
  subst e0 e1 e2 e3 e4 e5 e6 e7
  exact⟨⟨a0,a1,a2,a3,a4,a5⟩,rfl,w0,w1,w2,w3,w5⟩
theorem open_fn{fuel:Nat}{cs:List Value}{x:DataW H×List MemPlace}(h:DataW.trod enc prog w base spare held fuel 55 cs=some x)(hw:Lw prog 55 x.1):∃l:Fn,cs=l.cells/\l.ok w w.heap.size:=by
 obtain⟨n,hn,hl,hf⟩:=open_struct underlying55 h hw
 have hl':cs.length=3:=hl.trans (by kernel_rfl)
 obtain⟨y0,t0,-⟩:=fld hf 0 3 0 1 rfl (by kernel_rfl)
 obtain⟨y1,t1,u1⟩:=fld hf 1 52 1 1 rfl (by kernel_rfl)
 obtain⟨y2,t2,u2⟩:=fld hf 2 53 2 1 rfl (by kernel_rfl)
 clear hf hl h
 match cs,hl' with
 | [c0,c1,c2],_=>
  obtain⟨a0,e0,w0⟩:=open_int t0
  obtain⟨a1,e1,w1⟩:=open_il t1 u1
  obtain⟨a2,e2,w2⟩:=open_fl n _ _ t2 u2
  simp at e0 e1 e2
  subst e0 e1 e2
  exact⟨⟨a0,a1,a2⟩,rfl,w0,w1,w2⟩
theorem open_gl{fuel:Nat}{cs:List Value}{x:DataW H×List MemPlace}(h:DataW.trod enc prog w base spare held fuel 61 cs=some x)(hw:Lw prog 61 x.1):∃l:Gl,cs=l.cells/\l.ok w w.heap.size:=by
 obtain⟨n,hn,hl,hf⟩:=open_struct underlying61 h hw
 have hl':cs.length=11:=hl.trans (by kernel_rfl)
 obtain⟨y0,t0,-⟩:=fld hf 0 3 0 1 rfl (by kernel_rfl)
 obtain⟨y1,t1,-⟩:=fld hf 1 4 1 1 rfl (by kernel_rfl)
 obtain⟨y2,t2,u2⟩:=fld hf 2 59 2 9 rfl (by kernel_rfl)
 clear hf hl h
 match cs,hl' with
 | [c0,c1,d0,d1,d2,d3,d4,d5,d6,d7,d8],_=>
  obtain⟨a0,e0,w0⟩:=open_int t0
  obtain⟨a1,e1⟩:=open_boo t1
  obtain⟨a2,e2,w2⟩:=open_in t2 u2
  simp at e0 e1
  subst e0 e1
  exact⟨⟨a0,a1,a2⟩,by rw[Gl.cells,<-e2];rfl,w0,w2⟩
theorem open_ex{fuel:Nat}{cs:List Value}{x:DataW H×List MemPlace}(h:DataW.trod enc prog w base spare held fuel 79 cs=some x)(hw:Lw prog 79 x.1):∃l:Ex,cs=l.cells/\l.ok:=by
 obtain⟨n,hn,hl,hf⟩:=open_struct underlying79 h hw
 have hl':cs.length=3:=hl.trans (by kernel_rfl)
 obtain⟨y0,t0,u0⟩:=fld hf 0 9 0 1 rfl (by kernel_rfl)
 obtain⟨y1,t1,-⟩:=fld hf 1 3 1 1 rfl (by kernel_rfl)
 obtain⟨y2,t2,-⟩:=fld hf 2 3 2 1 rfl (by kernel_rfl)
 clear hf hl h
 match cs,hl' with
 | [c0,c1,c2],_=>
  obtain⟨a0,e0,w0⟩:=open_str t0 u0
  obtain⟨a1,e1,w1⟩:=open_int t1
  obtain⟨a2,e2,w2⟩:=open_int t2
  simp at e0 e1 e2
  subst e0 e1 e2
  exact⟨⟨a0,a1,a2⟩,rfl,w0,w1,w2⟩
theorem open_el{fuel:Nat}{cs:List Value}{x:DataW H×List MemPlace}(h:DataW.trod enc prog w base spare held fuel 63 cs=some x)(hw:Lw prog 63 x.1):∃l:El,cs=l.cells/\l.ok w w.heap.size:=by
 obtain⟨n,hn,hl,hf⟩:=open_struct underlying63 h hw
 have hl':cs.length=10:=hl.trans (by kernel_rfl)
 obtain⟨y0,t0,u0⟩:=fld hf 0 59 0 9 rfl (by kernel_rfl)
 obtain⟨y1,t1,u1⟩:=fld hf 1 52 9 1 rfl (by kernel_rfl)
 clear hf hl h
 match cs,hl' with
 | [d0,d1,d2,d3,d4,d5,d6,d7,d8,c1],_=>
  obtain⟨a0,e0,w0⟩:=open_in t0 u0
  obtain⟨a1,e1,w1⟩:=open_il t1 u1
  simp at e1
  subst e1
  exact⟨⟨a0,a1⟩,by rw[El.cells,<-e0];rfl,w0,w1⟩
theorem open_da{fuel:Nat}{cs:List Value}{x:DataW H×List MemPlace}(h:DataW.trod enc prog w base spare held fuel 65 cs=some x)(hw:Lw prog 65 x.1):∃l:Da,cs=l.cells/\l.ok w w.heap.size:=by
 obtain⟨n,hn,hl,hf⟩:=open_struct underlying65 h hw
 have hl':cs.length=10:=hl.trans (by kernel_rfl)
 obtain⟨y0,t0,u0⟩:=fld hf 0 59 0 9 rfl (by kernel_rfl)
 obtain⟨y1,t1,u1⟩:=fld hf 1 35 9 1 rfl (by kernel_rfl)
 clear hf hl h
 match cs,hl' with
 | [d0,d1,d2,d3,d4,d5,d6,d7,d8,c1],_=>
  obtain⟨a0,e0,w0⟩:=open_in t0 u0
  obtain⟨a1,e1,w1⟩:=open_bl t1 u1
  simp at e1
  subst e1
  exact⟨⟨a0,a1⟩,by rw[Da.cells,<-e0];rfl,w0,w1⟩
theorem open_cu{fuel:Nat}{cs:List Value}{x:DataW H×List MemPlace}(h:DataW.trod enc prog w base spare held fuel 48 cs=some x)(hw:Lw prog 48 x.1):∃l:Cu,cs=l.cells/\l.ok w w.heap.size:=by
 obtain⟨n,hn,hl,hf⟩:=open_struct underlying48 h hw
 have hl':cs.length=2:=hl.trans (by kernel_rfl)
 obtain⟨y0,t0,u0⟩:=fld hf 0 9 0 1 rfl (by kernel_rfl)
 obtain⟨y1,t1,u1⟩:=fld hf 1 35 1 1 rfl (by kernel_rfl)
 clear hf hl h
 match cs,hl' with
 | [c0,c1],_=>
  obtain⟨a0,e0,w0⟩:=open_str t0 u0
  obtain⟨a1,e1,w1⟩:=open_bl t1 u1
  simp at e0 e1
  subst e0 e1
  exact⟨⟨a0,a1⟩,rfl,w0,w1⟩
theorem open_sl{α:Type}(cells:α->List Value)(ok:World->Nat->α->Prop){t e:TypeId}(k y:Nat)(ht:prog.underlying t=some (.slice e))(hk:prog.cellsOf e=k)(hy:prog.bytesOf e=y)(hpos:0<k){fuel:Nat}{cs:List Value}{x:DataW H×List MemPlace}
  (hopen:∀n cs x,n<fuel->DataW.trod enc prog w base spare held n e cs=some x->Lw prog e x.1->∃a,cs=cells a/\ok w w.heap.size a) (hlen:∀a,(cells a).length=k)
  (h:DataW.trod enc prog w base spare held fuel t cs=some x) (hw:Lw prog t x.1):∃s:SL α,cs=[s.v]/\s.ok cells ok k y w w.heap.size:=by
 obtain⟨A,l,c,hcs,hl,hm,hrb,hrows,hall⟩:=open_rows cells (ok w w.heap.size) k ht hk hpos hopen hlen h hw
 rw[hy]at hrb
 exact⟨⟨l,A,c⟩,hcs,hl,hm,hrb,hrows,hall⟩
theorem open_mo{fuel:Nat}{cs:List Value}{x:DataW H×List MemPlace}(h:DataW.trod enc prog w base spare held fuel 32 cs=some x)(hw:Lw prog 32 x.1):∃m:Mo,cs=m.cells/\m.ok w w.heap.size:=by
 obtain⟨n,hn,hl,hf⟩:=open_struct underlying32 h hw
 have hl':cs.length=11:=hl.trans (by kernel_rfl)
 obtain⟨y0,t0,u0⟩:=fld hf 0 22 0 1 rfl (by kernel_rfl)
 obtain⟨y1,t1,u1⟩:=fld hf 1 23 1 1 rfl (by kernel_rfl)
 obtain⟨y2,t2,u2⟩:=fld hf 2 24 2 1 rfl (by kernel_rfl)
 obtain⟨y3,t3,u3⟩:=fld hf 3 25 3 1 rfl (by kernel_rfl)
 obtain⟨y4,t4,u4⟩:=fld hf 4 25 4 1 rfl (by kernel_rfl)
 obtain⟨y5,t5,u5⟩:=fld hf 5 26 5 1 rfl (by kernel_rfl)
 obtain⟨y6,t6,u6⟩:=fld hf 6 27 6 1 rfl (by kernel_rfl)
 obtain⟨y7,t7,-⟩:=fld hf 7 3 7 1 rfl (by kernel_rfl)
 obtain⟨y8,t8,u8⟩:=fld hf 8 28 8 1 rfl (by kernel_rfl)
 obtain⟨y9,t9,u9⟩:=fld hf 9 29 9 1 rfl (by kernel_rfl)
 obtain⟨y10,t10,u10⟩:=fld hf 10 30 10 1 rfl (by kernel_rfl)
 clear hf hl h
 match cs,hl' with
 | [c0,c1,c2,c3,c4,c5,c6,c7,c8,c9,c10],_=>
  obtain⟨a0,e0,w0⟩:=open_sl Ty.cells Ty.ok 2 48 underlying22 (by kernel_rfl) (by kernel_rfl) (by omega) (λn cs x _ h hw=>open_ty h hw) (λ_=>rfl) t0 u0
  obtain⟨a1,e1,w1⟩:=open_sl Im.cells (λ_ _=>Im.ok) 8 80 underlying23 (by kernel_rfl) (by kernel_rfl) (by omega) (λn cs x _ h hw=>open_im h hw) (λ_=>rfl) t1 u1
  obtain⟨a2,e2,w2⟩:=open_sl Fn.cells Fn.ok 3 56 underlying24 (by kernel_rfl) (by kernel_rfl) (by omega) (λn cs x _ h hw=>open_fn h hw) (λ_=>rfl) t2 u2
  obtain⟨a3,e3,w3⟩:=open_sl Lm.cells (λ_ _=>Lm.ok) 3 24 underlying25 (by kernel_rfl) (by kernel_rfl) (by omega) (λn cs x _ h hw=>open_lm h hw) (λ_=>rfl) t3 u3
  obtain⟨a4,e4,w4⟩:=open_sl Lm.cells (λ_ _=>Lm.ok) 3 24 underlying25 (by kernel_rfl) (by kernel_rfl) (by omega) (λn cs x _ h hw=>open_lm h hw) (λ_=>rfl) t4 u4
  obtain⟨a5,e5,w5⟩:=open_sl Gl.cells Gl.ok 11 136 underlying26 (by kernel_rfl) (by kernel_rfl) (by omega) (λn cs x _ h hw=>open_gl h hw) (λ_=>rfl) t5 u5
  obtain⟨a6,e6,w6⟩:=open_sl Ex.cells (λ_ _=>Ex.ok) 3 32 underlying27 (by kernel_rfl) (by kernel_rfl) (by omega) (λn cs x _ h hw=>open_ex h hw) (λ_=>rfl) t6 u6
  obtain⟨a7,e7,w7⟩:=open_int t7
  obtain⟨a8,e8,w8⟩:=open_sl El.cells El.ok 10 144 underlying28 (by kernel_rfl) (by kernel_rfl) (by omega) (λn cs x _ h hw=>open_el h hw) (λ_=>rfl) t8 u8
  obtain⟨a9,e9,w9⟩:=open_sl Da.cells Da.ok 10 144 underlying29 (by kernel_rfl) (by kernel_rfl) (by omega) (λn cs x _ h hw=>open_da h hw) (λ_=>rfl) t9 u9
  obtain⟨a10,e10,w10⟩:=open_sl Cu.cells Cu.ok 2 40 underlying30 (by kernel_rfl) (by kernel_rfl) (by omega) (λn cs x _ h hw=>open_cu h hw) (λ_=>rfl) t10 u10
  simp at e0 e1 e2 e3 e4 e5 e6 e7 e8 e9 e10
  subst e0 e1 e2 e3 e4 e5 e6 e7 e8 e9 e10
  exact⟨⟨a0,a1,a2,a3,a4,a5,a6,a7,a8,a9,a10⟩,rfl,w0,w1,w2,w3,w4,w5,w6,w7,w8,w9,w10⟩
end
end Go.Proofs.YteoijlfipmaoeaaGreatDoor
namespace Go.Proofs.YteoijlfipmaoeaaGreatDoor
open Go.RowKit Trx
theorem flatten_len{k:Nat}{rs:List (List Value)}(h:∀r∈rs,r.length=k):rs.flatten.length=rs.length * k:=by
 induction rs with
 |nil=>simp
 |cons r rs ih=>
  rw[xy,zz,ih (λr hr=>h r (xj _ hr)),h r jo,zl]
  rw[Nat.add_mul];omega
theorem flatten_get{k:Nat}{rs:List (List Value)}(h:∀r∈rs,r.length=k){i:Nat}{r:List Value}(hi:rs[i]? =some r){j:Nat}(hj:j<k):rs.flatten[i * k+j]? =r[j]?:=by
 induction rs generalizing i with
 |nil=>simp at hi
 |cons s rs ih=>
  have hs:=h s jo
  rw[xy]
  cases i with
  |zero=>
   simp at hi
   subst hi
   rw[jx (by omega)]
   simp
  |succ i=>
   simp at hi
   have e:(i+1) * k=k+i * k:=by rw[Nat.add_mul];omega
   rw[List.getElem?_append_right (by omega),hs,show(i+1) * k+j-k=i * k+j by omega]
   exact ih (λr hr=>h r (xj _ hr)) hi
structure OwnK(B:Nat)(w0 w:World)(e:TypeId)(k:Nat)(v:Value)(rs:List (List Value)):Prop where
 row:w.ownsRow B e k v rs.length rs.flatten
 len:∀r∈rs,r.length=k
 below:Below B w0 w
 le:B<=w.heap.size
def ElemK(P:Program)(e:TypeId)(k y:Nat):Prop:=∃i z,P.info? e=some i/\i.zero=some z/\i.size=k/\i.bytes=y/\z.cells.size=k
theorem ElemK.mk_{P:Program}{e:TypeId}{z:Value}{k y:Nat}(h:(P.info? e).map (λi=>(i.zero,i.size,i.bytes))=some (some z,k,y))(hz:z.cells.size=k):ElemK P e k y:=by
 obtain⟨i,h1,h2,h3,h4⟩:=info_parts h
 exact⟨i,z,h1,h2,h3,h4,hz⟩
section
variable{P:Program}{B:Nat}{w0 w w':World}{e:TypeId}{k:Nat}{v:Value}{rs:List (List Value)}
theorem OwnK.nil_(w0 w:World)(e:TypeId)(k:Nat)(hb:Below B w0 w)(hB:B<=w.heap.size):OwnK B w0 w e k (.slice none 0 0) []:=
 ⟨World.ownsRow_nil _ _ _ _,by simp,hb,hB⟩
theorem OwnK.later(h:OwnK B w0 w e k v rs)(hb:Below w.heap.size w w'):OwnK B w0 w' e k v rs:=by
 refine⟨⟨h.row.1,?_⟩,h.len,h.below.trans (hb.mono h.le),zy h.le hb.size⟩
 rcases h.row.2 with⟨rfl,hn⟩|⟨g,cap,cur,rfl,hg,hcur,hrest⟩
 ·exact .inl ⟨rfl,hn⟩
 ·
  refine .inr ⟨g,cap,cur,rfl,hg,?_,hrest⟩
  have hlt:g<w.heap.size:=by
   rcases qm g w.heap.size with h1|h1
   ·exact h1
   ·rw[qi h1]at hcur;cases hcur
  rw[hb.block g hlt];exact hcur
theorem OwnK.alloc(h:OwnK B w0 w e k v rs)(o:Obj):OwnK B w0 (w.alloc o) e k v rs:=h.later ((zx _ _).alloc (zq _) o)
theorem OwnK.drewN(h:OwnK B w0 w e k v rs)(n:Nat):OwnK B w0 (w.drewN n) e k v rs:=⟨h.row,h.len,⟨h.below.os,h.below.tape,h.below.output,h.below.size,h.below.block⟩,h.le⟩
theorem OwnK.own_lt(h:OwnK B w0 w e k v rs){g:Nat}(hg:v.ownBlock=some g):B<=g/\g<w.heap.size:=h.row.lt g hg
theorem OwnK.base{B':Nat}{w00:World}(h:OwnK B w0 w e k v rs)(hB:B'<=B)(hb:Below B' w00 w0):OwnK B' w00 w e k v rs:=by
 refine⟨⟨h.row.1,?_⟩,h.len,hb.trans (h.below.mono hB),zy hB h.le⟩
 rcases h.row.2 with hx|⟨g,cap,cur,h1,h2,h3⟩
 ·exact .inl hx
 ·exact .inr ⟨g,cap,cur,h1,by omega,h3⟩
theorem OwnK.setOther(h:OwnK B w0 w e k v rs){n:Nat}(hn:B<=n)(hne:v.ownBlock≠some n)(i:Nat)(u:Value):OwnK B w0 (w.setCell ⟨n,i,none⟩ u) e k v rs:=by
 refine⟨⟨h.row.1,?_⟩,h.len,h.below.setCell hn u,by have:=h.le;simpa[World.setCell]using this⟩
 rcases h.row.2 with hx|⟨g,cap,cur,rfl,h2,h3,h4⟩
 ·exact .inl hx
 ·
  refine .inr ⟨g,cap,cur,rfl,h2,?_,h4⟩
  rw[qa _ _ _ _ (by intro e;subst e;exact hne rfl)]
  exact h3
theorem OwnK.form(h:OwnK B w0 w e k v rs):∃A c,v=.slice A rs.length c/\rs.length<=c/\c<=maxLen/\RowsAt w w.heap.size A k rs:=by
 have hrow:=h.row
 rcases h.row.2 with⟨rfl,hn⟩|⟨g,cap,cur,rfl,hg,hcur,hle,hm,hsz,htk⟩
 ·exact⟨none,0,by rw[hn],by omega,qw _,λhne=>absurd (zc hn) hne⟩
 ·
  have hlt:g<w.heap.size:=by
   rcases qm g w.heap.size with h1|h1
   ·exact h1
   ·rw[qi h1]at hcur;cases hcur
  refine⟨_,cap,rfl,hle,hm,λhne=>⟨g,0,rfl,hlt,λi r hi j hj=>?_⟩⟩
  have hil:i<rs.length:=by
   rcases qm i rs.length with h1|h1
   ·exact h1
   ·rw[qt h1]at hi;cases hi
  have hlt2:i * k+j<rs.length * k:=by
   have:(i+1) * k<=rs.length * k:=Nat.mul_le_mul_right _ hil
   rw[Nat.add_mul]at this
   omega
  rw[qz,hrow.cellAt (i * k+j) hlt2,flatten_get h.len hi hj]
theorem OwnK.formB(h:OwnK B w0 w e k v rs)(hk:0<k):∃A c,v=.slice A rs.length c/\rs.length<=c/\c<=maxLen/\(rs≠[]->∃g,v.ownBlock=some g/\A=some ⟨g,0,none⟩/\B<=g/\g<w.heap.size/\∀i r,rs[i]? =some r->∀j,j<k->w.cell? ⟨g,i * k+j,none⟩=r[j]?):=by
 have hrow:=h.row
 rcases h.row.2 with⟨rfl,hn⟩|⟨g,cap,cur,rfl,hg,hcur,hle,hm,hsz,htk⟩
 ·exact⟨none,0,by rw[hn],by omega,qw _,λhne=>absurd (zc hn) hne⟩
 ·
  have hlt:g<w.heap.size:=by
   rcases qm g w.heap.size with h1|h1
   ·exact h1
   ·rw[qi h1]at hcur;cases hcur
  refine⟨_,cap,rfl,hle,hm,λhne=>⟨g,rfl,rfl,hg,hlt,λi r hi j hj=>?_⟩⟩
  have hil:i<rs.length:=by
   rcases qm i rs.length with h1|h1
   ·exact h1
   ·rw[qt h1]at hi;cases hi
  have hlt2:i * k+j<rs.length * k:=by
   have:(i+1) * k<=rs.length * k:=Nat.mul_le_mul_right _ hil
   rw[Nat.add_mul]at this
   omega
  rw[hrow.cellAt (i * k+j) hlt2,flatten_get h.len hi hj]
theorem wpList_pushK{ops:Array Oper}{rest:List Oper}{o:Oper}{a:Act}{Q:Exit->Act->World->Prop}(hgd:o.guard=none)(s x:Operand)(t:TypeId)
  (ho:o.op=.call {callee:=.builtin .append,args:=#[s,x],argTypes:=#[t,t]}) (y:Nat) (ht:P.underlying t=some (.slice e)) (hE:ElemK P e k y) (hk:0<k)
  (arr:Array Value) (c n:Nat) (hs:a.eval s=v) (h:OwnK B w0 w e k v rs) (hx:a.eval x=.slice (some ⟨n,0,none⟩) 1 c) (hn:n=w.heap.size) (hr:arr.size=k) (h1:∀u∈arr.toList,u.oneCell'=true) (hby:(rs.length+1) * y<=140737488355328) (hm:rs.length+1<=maxLen)
  (cont:∀v' w',OwnK B w0 w' e k v' (rs++[arr.toList])->(∀m,m<w.heap.size->v.ownBlock≠some m->w'.heap[m]? =w.heap[m]?/\v'.ownBlock≠some m)->w.heap.size<=w'.heap.size->wpList P ops Q rest (a.put o.dst v') w'):
  wpList P ops Q (o::rest) a (w.alloc (.cells arr e)):=by
 subst hn
 obtain⟨i,z,hi,hz,hsz,hyy,hzs⟩:=hE
 have hcells:∀j u,arr.toList[j]? =some u->(w.alloc (.cells arr e)).cell? ((⟨w.heap.size,0,none⟩:Addr).add j)=some u:=by
  intro j u hj
  rw[add_at,qz,zv _ _ _ _ rfl]
  simpa using hj
 have hle:=h.le
 obtain⟨v',w',hrun,h2,h3,_,h5⟩:=run_append_own_at (P:=P) (w.alloc (.cells arr e)) B t o.type e i z k y ht hi hz hsz hyy hzs hk v rs.length rs.flatten (h.row.alloc _) ⟨w.heap.size,0,none⟩ 1 c arr.toList (by simp[hr]) hcells h1 hm hby (by simp;omega)
 have hown:OwnK B w0 w' e k v' (rs++[arr.toList]):=by
  refine⟨by simpa using h2,λr hr'=>?_,(h.below.alloc h.le _).grown h3 (by simp;omega) (λg hg'=>(h.row.lt g hg').1),?_⟩
  ·
   rcases List.mem_append.1 hr' with h6|h6
   ·exact h.len r h6
   ·
    simp at h6
    subst h6
    simpa using hr
  ·have:=h3.size;simp at this;omega
 refine wpList_plain hgd λ_ hK=>?_
 unfold Oper.wp execOp
 simp only[ho,resolve,invoke,builtin,Sem.run_bind,Sem.run_pure,Result.andThen_ok,xi,qu,je,hs,hx,hrun]
 refine hK _ _ (cont v' w' hown (λm hm' hne=>⟨?_,?_⟩) (by have:=h3.size;simp at this;omega))
 ·rw[h3.block m (by simp;omega) (λe=>hne e.symm),Below.heap_alloc _ _ _ hm']
 ·
  rcases h5 with h5|h5
  ·rw[h5];exact hne
  ·rw[h5];simp;omega
theorem run_append_nothingK(w:World)(base:Nat)(t ty e:TypeId)(i:TypeInfo)(size:Nat)(ht:P.underlying t=some (.slice e))(hi:P.info? e=some i)
  (v:Value) (n:Nat) (xs:List Value) (hown:w.ownsRow base e size v n xs) (c:Nat):(Builtin.append_ #[t,t] ty #[v,.slice none 0 c]).run P w=.ok v w:=run_append_nothing w base t ty e i size ht hi v n xs hown c
theorem wpList_catK{ops:Array Oper}{rest:List Oper}{o:Oper}{a:Act}{Q:Exit->Act->World->Prop}(hgd:o.guard=none)(s x:Operand)(t:TypeId)
  (ho:o.op=.call {callee:=.builtin .append,args:=#[s,x],argTypes:=#[t,t]}) (y:Nat) (ht:P.underlying t=some (.slice e)) (hE:ElemK P e k y) (hk:0<k)
  {B':Nat} {A:Option Addr} {m c:Nat} {news:List (List Value)} (hs:a.eval s=v) (h:OwnK B w0 w e k v rs) (hx:a.eval x=.slice A m c) (hr:RowsAt w B' A k news) (hlen:∀r∈news,r.length=k) (hm:news.length=m)
  (h1:∀r∈news,∀u∈r,u.oneCell'=true) (hby:(rs.length+m) * y<=140737488355328) (hmx:rs.length+m<=maxLen)
  (cont:∀v' w',OwnK B w0 w' e k v' (rs++news)->(∀g,g<w.heap.size->v.ownBlock≠some g->w'.heap[g]? =w.heap[g]?/\v'.ownBlock≠some g)->w.heap.size<=w'.heap.size->wpList P ops Q rest (a.put o.dst v') w'):
  wpList P ops Q (o::rest) a w:=by
 obtain⟨i,z,hi,hz,hsz,hyy,hzs⟩:=hE
 subst hm
 have hle:=h.le
 have hrun:∃v' w',(Builtin.append_ #[t,t] o.type #[v,.slice A news.length c]).run P w=.ok v' w'/\OwnK B w0 w' e k v' (rs++news)/\(∀g,g<w.heap.size->v.ownBlock≠some g->w'.heap[g]? =w.heap[g]?/\v'.ownBlock≠some g)/\w.heap.size<=w'.heap.size:=by
  rcases A with _|ad
  ·
   have hn:news=[]:=by
    rcases Classical.em (news=[])with h0|h0
    ·exact h0
    ·obtain⟨_,_,h2,_⟩:=hr h0;cases h2
   subst hn
   exact⟨v,w,run_append_nothingK w B t o.type e i k ht hi v _ _ h.row c,by simpa using h,λg _ hg=>⟨rfl,hg⟩,zq _⟩
  ·
   have hcells:∀j u,news.flatten[j]? =some u->w.cell? (ad.add j)=some u:=by
    intro j u hj
    have hjl:j<news.length * k:=by
     rw[<-flatten_len hlen]
     rcases qm j news.flatten.length with h2|h2
     ·exact h2
     ·rw[qt h2]at hj;cases hj
    have hil:j / k<news.length:=Nat.div_lt_of_lt_mul (by rw[jr];exact hjl)
    have hgi:news[j / k]? =some news[j / k]:=zb hil
    obtain⟨b,off,h2,_,hc⟩:=hr (λe=>by simp[e]at hil)
    injection h2 with h2
    subst h2
    have hmod:j%k<k:=kj _ hk
    have hjj:j / k * k+j%k=j:=by rw[jr];exact Nat.div_add_mod j k
    rw[add_at]
    have h3:=hc (j / k) _ hgi (j%k) hmod
    rw[ju,hjj]at h3
    rw[h3,<-flatten_get hlen hgi hmod,hjj,hj]
   have hone:∀u∈news.flatten,u.oneCell'=true:=by
    intro u hu
    obtain⟨r,hr1,hr2⟩:=List.mem_flatten.1 hu
    exact h1 r hr1 u hr2
   obtain⟨v',w',hrun,h2,h3,_,h5⟩:=run_append_own_at (P:=P) w B t o.type e i z k y ht hi hz hsz hyy hzs hk v rs.length rs.flatten h.row ad news.length c news.flatten (flatten_len hlen) hcells hone hmx hby h.le
   refine⟨v',w',hrun,⟨by simpa using h2,λr hr'=>?_,h.below.grown h3 h.le (λg hg'=>(h.row.lt g hg').1),zy h.le h3.size⟩,λg hg hne=>⟨h3.block g hg (λe=>hne e.symm),?_⟩,h3.size⟩
   ·
    rcases List.mem_append.1 hr' with h6|h6
    ·exact h.len r h6
    ·exact hlen r h6
   ·
    rcases h5 with h5|h5
    ·rw[h5];exact hne
    ·rw[h5];simp;omega
 obtain⟨v',w',hrun,hown,hkeep,hsize⟩:=hrun
 refine wpList_plain hgd λ_ hK=>?_
 unfold Oper.wp execOp
 simp only[ho,resolve,invoke,builtin,Sem.run_bind,Sem.run_pure,Result.andThen_ok,xi,qu,je,hs,hx,hrun]
 exact hK _ _ (cont v' w' hown hkeep hsize)
end
theorem bel_alloc{w w':World}{o:Obj}(h:Below (w.alloc o).heap.size (w.alloc o) w'):Below w.heap.size w w':=((zx _ _).alloc (zq _) o).trans (h.mono (by simp))
def ones(vs:List Value):List (List Value):=vs.map λv=>[v]
@[simp] theorem ones_length(vs:List Value):(ones vs).length=vs.length:=by simp[ones]
theorem ones_len(vs:List Value):∀r∈ones vs,r.length=1:=by
 intro r hr
 obtain⟨v,_,rfl⟩:=List.mem_map.1 hr
 rfl
theorem Sl.ones{w:World}{B:Nat}{A:Option Addr}{vs:List Value}(h:Sl w B A vs):RowsAt w B A 1 (ones vs):=λhne=>by
 obtain⟨b,off,e,hb,hc⟩:=h (λe=>hne (by rw[e];rfl))
 refine⟨b,off,e,hb,λi r hi j hj=>?_⟩
 simp only[Go.Proofs.YteoijlfipmaoeaaGreatDoor.ones,zr]at hi
 obtain⟨v,hv,rfl⟩:=Option.map_eq_some_iff.1 hi
 have hil:i<vs.length:=by
  rcases qm i vs.length with h1|h1
  ·exact h1
  ·rw[qt h1]at hv;cases hv
 obtain rfl:j=0:=by omega
 rw[Nat.mul_one,qe,hc i hil,hv]
 rfl
theorem RowsAt.sl{w:World}{B:Nat}{A:Option Addr}{vs:List Value}(h:RowsAt w B A 1 (ones vs)):Sl w B A vs:=λhne=>by
 obtain⟨b,off,e,hb,hc⟩:=h (λe=>hne (by
  have:=congrArg List.length e
  rw[ones_length,zh]at this
  exact zc this))
 refine⟨b,off,e,hb,λi hi=>?_⟩
 have:=hc i [vs[i]] (by simp[Go.Proofs.YteoijlfipmaoeaaGreatDoor.ones,zb hi]) 0 (by omega)
 rw[Nat.mul_one,qe]at this
 rw[this,zb hi]
 rfl
def moA(m:Mo):Value:=.agg #[.slice m.ty.A m.ty.l.length m.ty.c,.slice m.im.A m.im.l.length m.im.c,.slice m.fn.A m.fn.l.length m.fn.c,.slice m.ta.A m.ta.l.length m.ta.c,.slice m.me.A m.me.l.length m.me.c,.slice m.gl.A m.gl.l.length m.gl.c,
 .slice m.ex.A m.ex.l.length m.ex.c,.int .i64 m.st,.slice m.el.A m.el.l.length m.el.c,.slice m.da.A m.da.l.length m.da.c,.slice m.cu.A m.cu.l.length m.cu.c]
theorem SL.ok.at_{α:Type}{cells:α->List Value}{q:World->Nat->α->Prop}{k y:Nat}{w:World}{B:Nat}{s:SL α}(h:s.ok cells q k y w B){j:Nat}(hj:j<s.l.length):
  ∃b o a,s.A=some ⟨b,o,none⟩/\s.l[j]? =some a/\b<B/\q w B a/\∀i,i<k->w.cell? ⟨b,o+j * k+i,none⟩=(cells a)[i]?:=by
 obtain⟨b,o,e,hb,hc⟩:=h.rows.at_ (i:=j) (r:=cells s.l[j]) (by rw[zr,zb hj];rfl)
 exact⟨b,o,s.l[j],e,zb hj,hb,h.all _ (jf hj),hc⟩
theorem elevenB{w0 w:World}{a0 a1 a2 a3 a4 a5 a6 a7 a8 a9 a10:Value}{t:TypeId}(h:Below (w0.alloc (.cells #[a0,a1,a2,a3,a4,a5,a6,a7,a8,a9,a10] t)).heap.size (w0.alloc (.cells #[a0,a1,a2,a3,a4,a5,a6,a7,a8,a9,a10] t)) w):
  (w0.heap.size<w.heap.size)/\(w.cell? ⟨w0.heap.size,0,none⟩=some a0)/\(w.cell? ⟨w0.heap.size,1,none⟩=some a1)/\(w.cell? ⟨w0.heap.size,2,none⟩=some a2)/\(w.cell? ⟨w0.heap.size,3,none⟩=some a3)/\
  (w.cell? ⟨w0.heap.size,4,none⟩=some a4)/\(w.cell? ⟨w0.heap.size,5,none⟩=some a5)/\(w.cell? ⟨w0.heap.size,6,none⟩=some a6)/\(w.cell? ⟨w0.heap.size,7,none⟩=some a7)/\(w.cell? ⟨w0.heap.size,8,none⟩=some a8)/\(w.cell? ⟨w0.heap.size,9,none⟩=some a9)/\(w.cell? ⟨w0.heap.size,10,none⟩=some a10):=by
 have hc:∀i,w.cell? ⟨w0.heap.size,i,none⟩=(#[a0,a1,a2,a3,a4,a5,a6,a7,a8,a9,a10]:Array Value)[i]?:=λi=>(h.cell (p:=⟨w0.heap.size,i,none⟩) (by simp)).trans (zv _ _ _ _ rfl)
 exact⟨by have:=h.size;simp at this;omega,hc 0,hc 1,hc 2,hc 3,hc 4,hc 5,hc 6,hc 7,hc 8,hc 9,hc 10⟩
end Go.Proofs.YteoijlfipmaoeaaGreatDoor
