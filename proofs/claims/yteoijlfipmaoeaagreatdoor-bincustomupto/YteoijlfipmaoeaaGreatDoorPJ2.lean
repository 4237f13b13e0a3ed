import Derived.Test.YteoijlfipmaoeaaGreatDoorPShelf
import Derived.Test.YteoijlfipmaoeaaGreatDoorPJ4
import Derived.Test.YteoijlfipmaoeaaGreatDoorPU8
import Derived.Lay
import Derived.LaidLaws
import Derived.LaidHandle
import Derived.ChangeArms
import Derived.OpenShut
import Derived.HandedShaped
import Derived.Lib.LaidTab
set_option linter.unusedVariables false
set_option linter.unusedSimpArgs false
set_option maxRecDepth 100000
set_option maxHeartbeats 4000000
namespace Go.Proofs.YteoijlfipmaoeaaGreatDoor
open Lib (hid)
open Go.RowKit
open Go.Proofs.Tryz
structure Nam(w:World):Prop where
 names:∀j:Nat,j<67->w.cell? ⟨3,j,none⟩=some (.string (Opx.nmB j))
 numbers:∀j:Nat,j<105->w.cell? ⟨4,j,none⟩=some (.string (Opx.nmB ((j:Int)+69)))
 some_:∃m,w.cell? ⟨5,0,none⟩=some (.int .i64 m)
theorem within_any(b x y:Int)(w:World):
  Calls prog 286 #[.int .i64 b,.int .i64 x,.int .i64 y] w λe w'=>e=.returned (.bool (decide (x<=b/\b<=y)))/\w=w':=by
 by_cases h:x<=b
 ·
  by_cases h2:b<=y
  all_goals
   go_enter func286,ntmps286
   go_wp2
   go_ret
   exact⟨ret_bool (by simp;omega),rfl⟩
 ·
  go_enter func286,ntmps286
  go_wp2
  go_ret
  exact⟨ret_bool (by simp;omega),rfl⟩
theorem within_b(b x y:Int)(r:Bool)(w:World)(hr:decide (x<=b/\b<=y)=r):
  Calls prog 286 #[.int .i64 b,.int .i64 x,.int .i64 y] w λe w'=>e=.returned (.bool r)/\w=w':=hr▸within_any b x y w
theorem kindOf_any(b:Int)(w:World):
  Calls prog 287 #[.int .i64 b] w λe w'=>e=.returned (.int .i64 (Opx.kd b))/\w=w':=by
 go_enter func287,ntmps287
 go_wp2
 all_goals
  go_ret
  refine⟨ret_int ?_,rfl⟩
  unfold Opx.kd
  repeat' split
  all_goals first|rfl|omega
theorem typeOf_any(s:ByteArray)(w:World):
  Calls prog 295 #[.string s] w λe w'=>e=.returned (.int .i64 (Opx.ty s.data.toList))/\w=w':=by
 by_cases h:Lib.hasPrefix s.data.toList [105,54,52,46]=true
 ·
  have e:Opx.ty s.data.toList=2:=by simp[Opx.ty,h]
  rw[e]
  have HP:=hid (λw=>Tryz.strings_HasPrefix s ⟨#[105,54,52,46]⟩ w)
  simp only[h]at HP
  clear e
  go_enter func295,ntmps295
  go_wp2_with(go_at_call 302;refine(HP.out _).mono ?_;rintro e w' ⟨rfl,rfl⟩)
  go_ret
  exact⟨rfl,rfl⟩
 ·
  have h':Lib.hasPrefix s.data.toList [105,54,52,46]=false:=by simpa using h
  have e:Opx.ty s.data.toList=1:=by simp[Opx.ty,h']
  rw[e]
  have HP:=hid (λw=>Tryz.strings_HasPrefix s ⟨#[105,54,52,46]⟩ w)
  simp only[h']at HP
  clear e h
  go_enter func295,ntmps295
  go_wp2_with(go_at_call 302;refine(HP.out _).mono ?_;rintro e w' ⟨rfl,rfl⟩)
  go_ret
  exact⟨rfl,rfl⟩
theorem isFloat_any(b:Int)(w:World):
  Calls prog 271 #[.int .i64 b] w λe w'=>e=.returned (.bool (Opx.flt b))/\w=w':=by
 have HW:=hid within_b
 by_cases c:b=42\/b=43\/b=56\/b=57\/b=67\/b=68
 ·
  have e:Opx.flt b=true:=by simp only[Opx.flt,decide_eq_true_eq];omega
  rw[e]
  clear e HW
  rcases c with rfl|rfl|rfl|rfl|rfl|rfl
  all_goals
   go_enter func271,ntmps271
   go_wp2
   go_ret
   exact⟨rfl,rfl⟩
 have t1:(b==42)=false:=by simp;omega
 have t2:(b==43)=false:=by simp;omega
 have t3:(b==56)=false:=by simp;omega
 have t4:(b==57)=false:=by simp;omega
 have t5:(b==67)=false:=by simp;omega
 have t6:(b==68)=false:=by simp;omega
 by_cases c1:91<=b/\b<=102
 ·
  have e:Opx.flt b=true:=by simp only[Opx.flt,decide_eq_true_eq];omega
  rw[e]
  have H1:=hid (λw=>HW.out b 91 102 true w (by simp;omega))
  clear e HW c c1
  go_enter func271,ntmps271
  go_wp2_with(go_at_call 286;refine(H1.out _).mono ?_;rintro e w' ⟨rfl,rfl⟩)
  go_ret
  exact⟨rfl,rfl⟩
 have H1:=hid (λw=>HW.out b 91 102 false w (by simp;omega))
 by_cases c2:139<=b/\b<=166
 ·
  have e:Opx.flt b=true:=by simp only[Opx.flt,decide_eq_true_eq];omega
  rw[e]
  have H2:=hid (λw=>HW.out b 139 166 true w (by simp;omega))
  clear e HW c c1 c2
  go_enter func271,ntmps271
  go_wp2_with(go_at_call 286;(first|with_reducible refine(H1.out _).mono ?_|with_reducible refine(H2.out _).mono ?_);rintro e w' ⟨rfl,rfl⟩)
  go_ret
  exact⟨rfl,rfl⟩
 have H2:=hid (λw=>HW.out b 139 166 false w (by simp;omega))
 by_cases c3:168<=b/\b<=171
 ·
  have e:Opx.flt b=true:=by simp only[Opx.flt,decide_eq_true_eq];omega
  rw[e]
  have H3:=hid (λw=>HW.out b 168 171 true w (by simp;omega))
  clear e HW c c1 c2 c3
  go_enter func271,ntmps271
  go_wp2_with(go_at_call 286;(first|with_reducible refine(H1.out _).mono ?_|with_reducible refine(H2.out _).mono ?_|with_reducible refine(H3.out _).mono ?_);rintro e w' ⟨rfl,rfl⟩)
  go_ret
  exact⟨rfl,rfl⟩
 have H3:=hid (λw=>HW.out b 168 171 false w (by simp;omega))
 have H4:=hid (λw=>HW.out b 174 191 _ w rfl)
 have HF:Hid ((decide (174<=b)&&decide (b<=191))=Opx.flt b):=hid (by rw[Bool.eq_iff_iff];simp[Opx.flt];omega)
 clear HW c c1 c2 c3
 go_enter func271,ntmps271
 go_wp2_with(go_at_call 286;(first|with_reducible refine(H1.out _).mono ?_|with_reducible refine(H2.out _).mono ?_|with_reducible refine(H3.out _).mono ?_|with_reducible refine(H4.out _).mono ?_);rintro e w' ⟨rfl,rfl⟩)
 go_ret
 exact⟨ret_bool HF.out,rfl⟩
theorem nameOf_any(b:Int)(w:World)(hN:Nam w)(h0: -9223372036854775808<=b)(h1:b<=9223372036854775807):
  Calls prog 272 #[.int .i64 b] w λe w'=>e=.returned (.string (Opx.nmB b))/\w=w':=by
 have HW:=hid within_b
 by_cases c1:0<=b/\b<=66
 ·
  obtain⟨j,rfl⟩:=xg c1.1
  have H1:=hid (λw=>HW.out j 0 66 true w (by simp;omega))
  have hc:=hN.names j (by omega)
  have hj:j<67:=by omega
  clear HW hN c1
  go_enter func272,ntmps272
  go_wp2_with(go_at_call 286;refine(H1.out _).mono ?_;rintro e w' ⟨rfl,rfl⟩)
  go_ret
  exact⟨rfl,rfl⟩
 have H1:=hid (λw=>HW.out b 0 66 false w (by simp;omega))
 by_cases c2:69<=b/\b<=173
 ·
  have H2:=hid (λw=>HW.out b 69 173 true w (by simp;omega))
  obtain⟨j,hj⟩:∃j:Nat,b=(j:Int)+69:=⟨(b-69).toNat,by omega⟩
  subst hj
  have hc:=hN.numbers j (by omega)
  have hj:j<105:=by omega
  clear HW hN c1 c2
  go_enter func272,ntmps272
  go_wp2_with(go_at_call 286;(first|with_reducible refine(H1.out _).mono ?_|with_reducible refine(H2.out _).mono ?_);rintro e w' ⟨rfl,rfl⟩)
  go_ret
  exact⟨rfl,rfl⟩
 have H2:=hid (λw=>HW.out b 69 173 false w (by simp;omega))
 have e:Opx.nmB b=⟨#[]⟩:=by
  have:Opx.nm b=[]:=by
   unfold Opx.nm
   split
   ·
    have:b=67\/b=68\/174<=b:=by omega
    rcases this with rfl|rfl|h
    ·rfl
    ·rfl
    ·rw[jm,qt (by rw[show Opx.tab.length=174 by rfl];omega)];rfl
   ·rfl
  simp[Opx.nmB,this]
 rw[e]
 clear e HW hN c1 c2
 go_enter func272,ntmps272
 go_wp2_with(go_at_call 286;(first|with_reducible refine(H1.out _).mono ?_|with_reducible refine(H2.out _).mono ?_);rintro e w' ⟨rfl,rfl⟩)
 go_ret
 exact⟨rfl,rfl⟩
end Go.Proofs.YteoijlfipmaoeaaGreatDoor
namespace Go.Proofs.YteoijlfipmaoeaaGreatDoor
open Go.RowKit Go.Lib
open Go.Proofs.Tryz
def LL:List (String×DataW Unit):=[("unicode/utf8.acceptRanges",Rows.laid_unicode_utf8_acceptRanges),("errors.errorType",Rows.laid_errors_errorType),("grommet/op.names",Rows.laid_grommet_op_names),("grommet/op.numbers",Rows.laid_grommet_op_numbers),("unicode/utf8.first",Rows.laid_unicode_utf8_first)]
def LP:List (String×DataW Unit):=[("unicode/utf8.acceptRanges",Rows.laid_unicode_utf8_acceptRanges),("grommet/op.names",Rows.laid_grommet_op_names),("grommet/op.numbers",Rows.laid_grommet_op_numbers),("unicode/utf8.first",Rows.laid_unicode_utf8_first)]
theorem Laid.et:prog.globalNamed "errors.errorType" =some 0:=by kernel_rfl
theorem Laid.rt:(prog.cutTypes.find? (·.1== "internal/reflectlite.rtype")).map (·.2)=some 258:=by kernel_rfl
theorem Laid.oneRow:((List.range 384).filter λt=>prog.rowNamed t [101,114,114,111,114])=[37]:=by kernel_rfl
theorem Laid.size:prog.types.size=384:=by kernel_rfl
theorem Laid.hand:typeHandle prog 37=.pointer (some ⟨6,37,none⟩):=by kernel_rfl
theorem et_of_handles{W:World}{l:List (String×DataW Unit)}(h:handlesMet prog l W)(hm:("errors.errorType",Rows.laid_errors_errorType)∈l):Et W:=by
 obtain⟨name,u,ty,e1,e2,e3,e4,e5⟩:=h _ hm
 have en:name=[101,114,114,111,114]:=(Option.some.inj e1).symm
 subst en
 obtain rfl:=Option.some.inj (Laid.rt.symm.trans e2)
 have hm:ty∈(List.range 384).filter λt=>prog.rowNamed t [101,114,114,111,114]:=List.mem_filter.2 ⟨List.mem_range.2 (by rw[<-Laid.size];exact e3),e4⟩
 rw[Laid.oneRow]at hm
 obtain rfl:=List.mem_singleton.1 hm
 rw[Laid.hand]at e5
 unfold Et
 simpa using World.var?_cell Laid.et e5 0
def strData(ls:List (List UInt8)):DataW Unit:=.agg (ls.map λl=>.lit (.string l))
theorem Laid.namesIs:(Rows.laid_grommet_op_names:DataW Unit)=strData (Opx.tab.take 67):=by kernel_rfl
theorem Laid.numbersIs:(Rows.laid_grommet_op_numbers:DataW Unit)=strData (Opx.tab.drop 69):=by kernel_rfl
theorem cells_of_strs{enc:TypeId×Value->Unit}{P:Program}{w:World}{base:Nat}{sp:Nat->Bool}{held:Bool}{fuel:Nat}{t e:TypeId}{n:Nat}{cs:List Value}{ls:List (List UInt8)}{p:List MemPlace}
  (ht:P.underlying t=some (.array n e)) (he:P.underlying e=some .string) (hce:P.cellsOf e=1)
  (h:DataW.trod enc P w base sp held fuel t cs=some (strData ls,p)) (i:Nat) (hi:i<ls.length):cs[i]? =some (.string ⟨(ls.getD i []).toArray⟩):=by
 obtain⟨xs,m,rfl,hx,hl,hn,hall⟩:=DataW.trod_array ht h
 have hxs:xs.map (·.1)=ls.map λl=>(DataW.lit (.string l):DataW Unit):=by
  have:=congrArg Prod.fst hx
  simp[strData]at this
  exact this.symm
 have hlen:xs.length=ls.length:=by simpa using congrArg List.length hxs
 have h1:=hall i (by omega)
 rw[hce,Nat.mul_one]at h1
 have hxi:xs[i]?.map (·.1)=some (.lit (.string ls[i])):=by
  rw[<-zr,hxs];simp[hi]
 rw[<-h1]at hxi
 obtain⟨y,hy,hy2⟩:=Option.map_eq_some_iff.1 hxi
 cases m with
 |zero=>simp[DataW.trod]at hy
 |succ m=>
  unfold DataW.trod at hy
  rw[he]at hy
  cases hc:cs[i]? with
  |none=>
   rw[List.getElem?_eq_none_iff]at hc
   rw[xp hc]at hy
   simp at hy
  |some v=>
   obtain⟨hlt,hv⟩:=List.getElem?_eq_some_iff.1 hc
   have ec:(cs.drop i).take 1=[v]:=by
    rw[ji hlt,hv];rfl
   rw[ec]at hy
   cases v<;>simp at hy
   rename_i s
   obtain⟨_,rfl⟩:=hy
   injection hy2 with hy2
   injection hy2 with hy2
   rw[jm,zb hi]
   simp only[Option.getD_some,<-hy2]
theorem cell_drop{W:World}{n:String}{g:Nat}{cs:Array Value}(hg:prog.globalNamed n=some g)(hv:W.var? prog n=some cs){k:Nat}{v:Value}(h:cs.toList[k]? =some v):W.cell? ⟨g,k,none⟩=some v:=by
 have:=World.var?_cell hg hv k
 rw[this,<-Array.getElem?_toList,h]
theorem some_max{W:World}(h:W.ShapedOpen prog):∃m,W.cell? ⟨5,0,none⟩=some (.int .i64 m):=
 cell_of_shapedOpen_int (zero:=#[.int .i64 0]) (t:=3) h (of_decide_eq_true (by kernel_rfl)) (by kernel_rfl) rfl (by kernel_rfl) (by kernel_rfl) underlying3
theorem Laid.firstIs:Rows.laid_unicode_utf8_first=tabData .u8 ((List.range 256).map λc=>(firstT c:Int)):=by kernel_rfl
theorem Laid.accIs:(Rows.laid_unicode_utf8_acceptRanges:DataW Unit)=.agg ((List.range 16).map λi=>.agg [.lit (.int .u8 (accLo i:Nat)),.lit (.int .u8 (accHi i:Nat))]):=by kernel_rfl
theorem u8t_of_laid{W:World}(h:laidMet prog LP W):U8T W:=by
 obtain⟨ps,⟨g,t,cs,fuel,p,q,hg,ht,hv,hd,⟨g3,t3,cs3,fuel3,p3,q3,_,_,_,_,⟨g4,t4,cs4,fuel4,p4,q4,_,_,_,_,⟨g2,t2,cs2,fuel2,p2,q2,hg2,ht2,hv2,hd2,_,_⟩,_⟩,_⟩,_⟩,_,_⟩:=h
 have hg':=hg
 have hg2':=hg2
 obtain rfl:=Option.some.inj ((show prog.globalNamed "unicode/utf8.acceptRanges" =some 2 by kernel_rfl).symm.trans hg)
 obtain rfl:=Option.some.inj ((show(prog.globals[2]?).map (·.type)=some 304 by kernel_rfl).symm.trans ht)
 obtain rfl:=Option.some.inj ((show prog.globalNamed "unicode/utf8.first" =some 1 by kernel_rfl).symm.trans hg2)
 obtain rfl:=Option.some.inj ((show(prog.globals[1]?).map (·.type)=some 301 by kernel_rfl).symm.trans ht2)
 have c8:prog.cellsOf 5=1:=by kernel_rfl
 have c256:prog.cellsOf 301=256:=by kernel_rfl
 have c2:prog.cellsOf 303=2:=by kernel_rfl
 rw[Laid.firstIs]at hd2
 rw[Laid.accIs]at hd
 have hcs2:=cells_of_tab underlying301 underlying5 c8 c256 hd2
 have hacc:∀i,i<16->cs.toList[2 * i]? =some (.int .u8 (accLo i:Nat))/\cs.toList[2 * i+1]? =some (.int .u8 (accHi i:Nat)):=by
  intro i hi
  obtain⟨xs,m,_,ex,_,hl,hel⟩:=DataW.trod_array underlying304 hd
  have hE:=hel i hi
  rw[c2,zb (by omega)]at hE
  have e3:(xs.map (·.1))=((List.range 16).map λi=>(.agg [.lit (.int .u8 (accLo i:Nat)),.lit (.int .u8 (accHi i:Nat))]:DataW Unit)):=(DataW.agg.inj (Prod.mk.inj ex).1).symm
  have e4:(xs[i]'(by omega)).1=.agg [.lit (.int .u8 (accLo i:Nat)),.lit (.int .u8 (accHi i:Nat))]:=by
   have:=congrArg (·[i]?) e3
   simp only[zr,List.getElem?_range hi,Option.map_some]at this
   rw[zb (by omega)]at this
   simpa using this
  obtain⟨ys,n,_,hy,_,hyl,hall⟩:=DataW.trod_struct underlying303 hE
  have hyl':ys.length=2:=hyl
  have h0:=hall 0 {name:= "lo",type:=5,offset:=0,embedded:=false,tag:= "",pkgPath:= "unicode/utf8",byteOffset:=0} rfl
  have h1:=hall 1 {name:= "hi",type:=5,offset:=1,embedded:=false,tag:= "",pkgPath:= "unicode/utf8",byteOffset:=1} rfl
  dsimp only at h0 h1
  rw[zb (by omega)]at h0 h1
  simp only[c8]at h0 h1
  obtain⟨z0,k0,d0,_⟩:=DataW.trod_int underlying5 h0
  obtain⟨z1,k1,d1,_⟩:=DataW.trod_int underlying5 h1
  have hyy:ys.map (·.1)=[.lit (.int .u8 (accLo i:Nat)),.lit (.int .u8 (accHi i:Nat))]:=by
   have:=congrArg Prod.fst hy
   rw[e4]at this
   exact(DataW.agg.inj this).symm
  have y0:=congrArg (·[0]?) hyy
  have y1:=congrArg (·[1]?) hyy
  simp only[zr]at y0 y1
  rw[zb (by omega)]at y0 y1
  simp only[Option.map_some,d0,d1]at y0 y1
  simp at y0 y1
  subst y0 y1
  have k0':=congrArg (·[0]?) k0
  have k1':=congrArg (·[0]?) k1
  simp[ja,jk]at k0' k1'
  constructor
  ·simpa[jr]using k0'
  ·simpa[jr]using k1'
 refine⟨λc hc=>cell_drop hg2' hv2 ?_,λi hi=>cell_drop hg' hv (hacc i hi).1,λi hi=>cell_drop hg' hv (hacc i hi).2⟩
 rw[hcs2]
 simp[hc]
theorem nam_of_laid{W:World}(h:laidMet prog LP W)(hs:W.ShapedOpen prog):Nam W:=by
 obtain⟨ps,⟨g9,t9,cs9,fuel9,p9,q9,_,_,_,_,⟨g,t,cs,fuel,p,q,hg,ht,hv,hd,hr,_⟩,_⟩,_,_⟩:=h
 obtain⟨g2,t2,cs2,fuel2,p2,q2,hg2,ht2,hv2,hd2,_,_⟩:=hr
 have hg':=hg
 have hg2':=hg2
 obtain rfl:=Option.some.inj ((show prog.globalNamed "grommet/op.names" =some 3 by kernel_rfl).symm.trans hg)
 obtain rfl:=Option.some.inj ((show(prog.globals[3]?).map (·.type)=some 339 by kernel_rfl).symm.trans ht)
 obtain rfl:=Option.some.inj ((show prog.globalNamed "grommet/op.numbers" =some 4 by kernel_rfl).symm.trans hg2)
 obtain rfl:=Option.some.inj ((show(prog.globals[4]?).map (·.type)=some 340 by kernel_rfl).symm.trans ht2)
 have c1:prog.cellsOf 9=1:=by kernel_rfl
 rw[Laid.namesIs]at hd
 rw[Laid.numbersIs]at hd2
 refine⟨λj hj=>cell_drop hg' hv ?_,λj hj=>cell_drop hg2' hv2 ?_,some_max hs⟩
 ·
  rw[cells_of_strs underlying339 underlying9 c1 hd j (by rw[qh,show Opx.tab.length=174 by rfl];omega)]
  simp[Opx.nmB,Opx.nm,hj]
 ·
  rw[cells_of_strs underlying340 underlying9 c1 hd2 j (by rw[qc,show Opx.tab.length=174 by rfl];omega)]
  have e:((j:Int)+69).toNat=69+j:=by omega
  simp only[Opx.nmB,Opx.nm,e]
  rw[if_pos (by omega)]
  simp[jm]
noncomputable def laidBase(os:Os):World:=
 let w0:=World.holding prog os ⟨#[],#[],[]⟩
 {w0 with heap:=w0.heap.modify 0 λ
   |.cells _ t frozen=>.cells #[.iface 258 (.agg #[.pointer (some ⟨6,37,none⟩)])] t frozen
   |o=>o}
noncomputable def laidWorld(os:Os):World:=(laidBase os).layVars prog LP
theorem laidWorld_os(os:Os):(laidWorld os).os=os:=World.layVars_os _ _ _
theorem laidWorld_plain(os:Os):laidMet prog LP (laidWorld os):=
 laidMet_layVars (w0:=laidBase os) (LP.map (·.1)) [] (by rfl) (by kernel_rfl) (by kernel_rfl) LaidIn.none
theorem laidWorld_met(os:Os)(args:Array Value):laidMetH prog LL ((laidWorld os).forCall (λ_ _=>0) ⟨#[],args,[]⟩).memory:=
 laidMetH_of_parts ((laidWorld_plain os).of_heap (by simp[World.memory,World.forCall,Input.heap])) (by kernel_rfl)
open Go.ChangeShapes Go.WideShapes in
theorem lw_of{H:Type}{P:Program}{ts us:List TypeId}{ds gs:List (DataW H)}(h:(DataW.weightsEach P (ts++us) (ds++gs)).all (· <=reachBytes)=true){i:Nat}{t:TypeId}{d:DataW H}(ht:ts[i]? =some t)(hd:ds[i]? =some d):Lw P t d:=by
 intro y hy
 have hil:i<ts.length:=by
  rcases qm i ts.length with h1|h1
  ·exact h1
  ·rw[qt h1]at ht;cases ht
 have hil2:i<ds.length:=by
  rcases qm i ds.length with h1|h1
  ·exact h1
  ·rw[qt h1]at hd;cases hd
 have hm:=weightsEach_mem (P:=P) (ts:=ts++us) (l:=ds++gs) (i:=i) (by rw[jx hil];exact ht) (by rw[jx hil2];exact hd) hy
 have:=List.all_eq_true.1 h y hm
 exact of_decide_eq_true this
theorem std_of_laid{W:World}(h:laidMetH prog LL W)(hs:W.ShapedOpen prog):Nam W/\Et W/\U8T W:=by
 have h':laidMet prog LP W/\handlesMet prog [("errors.errorType",Rows.laid_errors_errorType)] W:=h
 exact⟨nam_of_laid h'.1 hs,et_of_handles h'.2 (List.mem_singleton.2 rfl),u8t_of_laid h'.1⟩
end Go.Proofs.YteoijlfipmaoeaaGreatDoor
