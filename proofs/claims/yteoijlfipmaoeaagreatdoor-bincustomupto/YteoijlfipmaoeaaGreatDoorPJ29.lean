import Derived.Test.YteoijlfipmaoeaaGreatDoorPTreeT2
import Derived.Test.YteoijlfipmaoeaaGreatDoorPTreeS6
import Derived.Test.YteoijlfipmaoeaaGreatDoorPJ28
set_option linter.unusedVariables false
set_option linter.unusedSimpArgs false
set_option maxRecDepth 100000
set_option maxHeartbeats 40000000
namespace Go.Proofs.YteoijlfipmaoeaaGreatDoor
open Lib (hid)
open Go.RowKit Trx
open Go.Proofs.Tryz
def mx2(x y:Int):Int:=if y>x then y else x
def mx9(a b c d e f g h i:Int):Int:=mx2 (mx2 (mx2 (mx2 (mx2 (mx2 (mx2 (mx2 a b) c) d) e) f) g) h) i
@[go_sem high] theorem run_max_int9{P:Program}{w:World}(ts:Array TypeId)(t:TypeId)(a b c d e f g h i:Int):(Builtin.max_ ts t #[.int .i64 a,.int .i64 b,.int .i64 c,.int .i64 d,.int .i64 e,.int .i64 f,.int .i64 g,.int .i64 h,.int .i64 i]).run P w=.ok (.int .i64 (mx9 a b c d e f g h i)) w:=by
 simp[Builtin.max_,Builtin.max2,mx9,mx2]
def fewI(m:Mo):Bool:=decide (m.ty.l.length<=64)&&decide (mx9 m.im.l.length m.fn.l.length m.ta.l.length m.me.l.length m.gl.l.length m.ex.l.length m.el.l.length m.da.l.length m.cu.l.length<=64)
theorem mx9_in(a b c d e f g h i:Int)(ha:0<=a/\a<=9223372036854775807)(hb:0<=b/\b<=9223372036854775807)(hc:0<=c/\c<=9223372036854775807)(hd:0<=d/\d<=9223372036854775807)(he:0<=e/\e<=9223372036854775807)(hf:0<=f/\f<=9223372036854775807)(hg:0<=g/\g<=9223372036854775807)(hh:0<=h/\h<=9223372036854775807)(hi:0<=i/\i<=9223372036854775807):0<=mx9 a b c d e f g h i/\mx9 a b c d e f g h i<=9223372036854775807:=by
 have key:∀x y:Int,(0<=x/\x<=9223372036854775807)->(0<=y/\y<=9223372036854775807)->(0<=mx2 x y/\mx2 x y<=9223372036854775807):=λx y h1 h2=>by unfold mx2;split<;>omega
 exact key _ _ (key _ _ (key _ _ (key _ _ (key _ _ (key _ _ (key _ _ (key _ _ ha hb) hc) hd) he) hf) hg) hh) hi
theorem fewItems_any(m:Mo)(w:World)(hm:m.ok w w.heap.size):Calls prog 57 #[moV m] w λe w'=>e=.returned (.bool (fewI m))/\Below w.heap.size w w':=by
 unfold fewI
 have m0:=zy hm.ty.le hm.ty.c
 have m1:=zy hm.im.le hm.im.c
 have m2:=zy hm.fn.le hm.fn.c
 have m3:=zy hm.ta.le hm.ta.c
 have m4:=zy hm.me.le hm.me.c
 have m5:=zy hm.gl.le hm.gl.c
 have m6:=zy hm.ex.le hm.ex.c
 have m7:=zy hm.el.le hm.el.c
 have m8:=zy hm.da.le hm.da.c
 have m9:=zy hm.cu.le hm.cu.c
 unfold maxLen at m0 m1 m2 m3 m4 m5 m6 m7 m8 m9
 clear hm
 have hmx:=mx9_in m.im.l.length m.fn.l.length m.ta.l.length m.me.l.length m.gl.l.length m.ex.l.length m.el.l.length m.da.l.length m.cu.l.length ⟨by omega,by omega⟩ ⟨by omega,by omega⟩ ⟨by omega,by omega⟩ ⟨by omega,by omega⟩ ⟨by omega,by omega⟩ ⟨by omega,by omega⟩ ⟨by omega,by omega⟩ ⟨by omega,by omega⟩ ⟨by omega,by omega⟩
 by_cases h1:m.ty.l.length<=64
 ·
  have t1:decide ((m.ty.l.length:Int)<=64)=true:=leT h1
  rw[decide_eq_true h1]
  clear h1
  cases hq:decide (mx9 m.im.l.length m.fn.l.length m.ta.l.length m.me.l.length m.gl.l.length m.ex.l.length m.el.l.length m.da.l.length m.cu.l.length<=64)
  ·
   go_enter func57,ntmps57
   go_wp2_with fail
   go_ret
   exact⟨by simp_all,((zx _ _).alloc (zq _) _)⟩
  ·
   go_enter func57,ntmps57
   go_wp2_with fail
   go_ret
   exact⟨by simp_all,((zx _ _).alloc (zq _) _)⟩
 ·
  have t1:decide ((m.ty.l.length:Int)<=64)=false:=leF h1
  rw[decide_eq_false h1]
  clear h1
  go_enter func57,ntmps57
  go_wp2_with fail
  go_ret
  exact⟨by simp,((zx _ _).alloc (zq _) _)⟩
def smallM(m:Mo):Bool:=fewI m&&m.ty.l.all smTy&&m.im.l.all smIm&&m.fn.l.all smFn&&m.gl.l.all smGl&&m.ex.l.all smEx&&m.el.l.all smEl&&m.da.l.all smDa&&m.cu.l.all smCu
def Bx1(w:World)(c:Array Value)(w1:World):Prop:=w.heap.size<w1.heap.size/\(∀i,w1.cell? ⟨w.heap.size,i,none⟩=c[i]?)/\Below w.heap.size w w1
theorem Bx1.bel{w w1:World}{c:Array Value}(h:Bx1 w c w1):Below w.heap.size w w1:=h.2.2
theorem Bx1.next{w w1 w2:World}{c:Array Value}(h:Bx1 w c w1)(hb:Below w1.heap.size w1 w2):Bx1 w c w2:=
 ⟨zj h.1 hb.size,λi=>(hb.cell (p:=⟨w.heap.size,i,none⟩) h.1).trans (h.2.1 i),h.2.2.trans (hb.mono h.2.2.size)⟩
theorem Small_any(m:Mo)(w:World)(hN:Nam w)(hm:m.ok w w.heap.size):Calls prog 19 #[moV m] w λe w'=>e=.returned (.bool (smallM m))/\Below w.heap.size w w':=by
 have HF:=hid (λw' (h:Below w.heap.size w w')=>fewItems_any m w' (hm.below h))
 have H0:=hid (λw' (h:Below w.heap.size w w')=>allTy_any m.ty w' (hN.below h) (hm.below h).ty)
 have H1:=hid (λw' (h:Below w.heap.size w w')=>allIm_any m.im w' (hN.below h) (hm.below h).im)
 have H2:=hid (λw' (h:Below w.heap.size w w')=>allFn_any m.fn w' (hN.below h) (hm.below h).fn)
 have H3:=hid (λw' (h:Below w.heap.size w w')=>allGl_any m.gl w' (hN.below h) (hm.below h).gl)
 have H4:=hid (λw' (h:Below w.heap.size w w')=>allEx_any m.ex w' (hN.below h) (hm.below h).ex)
 have H5:=hid (λw' (h:Below w.heap.size w w')=>allEl_any m.el w' (hN.below h) (hm.below h).el)
 have H6:=hid (λw' (h:Below w.heap.size w w')=>allDa_any m.da w' (hN.below h) (hm.below h).da)
 have H7:=hid (λw' (h:Below w.heap.size w w')=>allCu_any m.cu w' (hN.below h) (hm.below h).cu)
 clear hm hN
 go_enter func19,ntmps19
 go_wp2_with(first
  |(go_at_call 57;((with_reducible refine(HF.out _ ((zx _ _).alloc (zq _) _)).mono ?_);rintro e w0 ⟨rfl,hb1⟩;have HK0:=hid (show Bx1 w #[.slice m.ty.A m.ty.l.length m.ty.c,.slice m.im.A m.im.l.length m.im.c,.slice m.fn.A m.fn.l.length m.fn.c,.slice m.ta.A m.ta.l.length m.ta.c,.slice m.me.A m.me.l.length m.me.c,.slice m.gl.A m.gl.l.length m.gl.c,.slice m.ex.A m.ex.l.length m.ex.c,.int .i64 m.st,.slice m.el.A m.el.l.length m.el.c,.slice m.da.A m.da.l.length m.da.c,.slice m.cu.A m.cu.l.length m.cu.c] w0 from(by obtain⟨x1,x2,-,x3⟩:=newBlk hb1;exact⟨x1,x2,x3⟩));have c0:w0.cell? ⟨w.heap.size,0,none⟩=some (.slice m.ty.A m.ty.l.length m.ty.c):=HK0.out.2.1 0;have hl0:=HK0.out.1;obtain⟨b0,hB0⟩:∃b,b=fewI m:=⟨_,rfl⟩;rw[<-hB0];have HP0:=hid hB0;clear hb1 hB0))
  |(go_at_call 58;((with_reducible refine(H0.out _ HK0.out.bel).mono ?_);rintro e w1 ⟨rfl,hb1⟩;have HK1:=hid (HK0.out.next hb1);have c1:w1.cell? ⟨w.heap.size,1,none⟩=some (.slice m.im.A m.im.l.length m.im.c):=HK1.out.2.1 1;have hl1:=HK1.out.1;obtain⟨b1,hB1⟩:∃b,b=m.ty.l.all smTy:=⟨_,rfl⟩;rw[<-hB1];have HP1:=hid hB1;clear hb1 hB1))
  |(go_at_call 60;((with_reducible refine(H1.out _ HK1.out.bel).mono ?_);rintro e w2 ⟨rfl,hb1⟩;have HK2:=hid (HK1.out.next hb1);have c2:w2.cell? ⟨w.heap.size,2,none⟩=some (.slice m.fn.A m.fn.l.length m.fn.c):=HK2.out.2.1 2;have hl2:=HK2.out.1;obtain⟨b2,hB2⟩:∃b,b=m.im.l.all smIm:=⟨_,rfl⟩;rw[<-hB2];have HP2:=hid hB2;clear hb1 hB2))
  |(go_at_call 62;((with_reducible refine(H2.out _ HK2.out.bel).mono ?_);rintro e w3 ⟨rfl,hb1⟩;have HK3:=hid (HK2.out.next hb1);have c5:w3.cell? ⟨w.heap.size,5,none⟩=some (.slice m.gl.A m.gl.l.length m.gl.c):=HK3.out.2.1 5;have hl3:=HK3.out.1;obtain⟨b3,hB3⟩:∃b,b=m.fn.l.all smFn:=⟨_,rfl⟩;rw[<-hB3];have HP3:=hid hB3;clear hb1 hB3))
  |(go_at_call 64;((with_reducible refine(H3.out _ HK3.out.bel).mono ?_);rintro e w4 ⟨rfl,hb1⟩;have HK4:=hid (HK3.out.next hb1);have c6:w4.cell? ⟨w.heap.size,6,none⟩=some (.slice m.ex.A m.ex.l.length m.ex.c):=HK4.out.2.1 6;have hl4:=HK4.out.1;obtain⟨b4,hB4⟩:∃b,b=m.gl.l.all smGl:=⟨_,rfl⟩;rw[<-hB4];have HP4:=hid hB4;clear hb1 hB4))
  |(go_at_call 66;((with_reducible refine(H4.out _ HK4.out.bel).mono ?_);rintro e w5 ⟨rfl,hb1⟩;have HK5:=hid (HK4.out.next hb1);have c8:w5.cell? ⟨w.heap.size,8,none⟩=some (.slice m.el.A m.el.l.length m.el.c):=HK5.out.2.1 8;have hl5:=HK5.out.1;obtain⟨b5,hB5⟩:∃b,b=m.ex.l.all smEx:=⟨_,rfl⟩;rw[<-hB5];have HP5:=hid hB5;clear hb1 hB5))
  |(go_at_call 68;((with_reducible refine(H5.out _ HK5.out.bel).mono ?_);rintro e w6 ⟨rfl,hb1⟩;have HK6:=hid (HK5.out.next hb1);have c9:w6.cell? ⟨w.heap.size,9,none⟩=some (.slice m.da.A m.da.l.length m.da.c):=HK6.out.2.1 9;have hl6:=HK6.out.1;obtain⟨b6,hB6⟩:∃b,b=m.el.l.all smEl:=⟨_,rfl⟩;rw[<-hB6];have HP6:=hid hB6;clear hb1 hB6))
  |(go_at_call 70;((with_reducible refine(H6.out _ HK6.out.bel).mono ?_);rintro e w7 ⟨rfl,hb1⟩;have HK7:=hid (HK6.out.next hb1);have c10:w7.cell? ⟨w.heap.size,10,none⟩=some (.slice m.cu.A m.cu.l.length m.cu.c):=HK7.out.2.1 10;have hl7:=HK7.out.1;obtain⟨b7,hB7⟩:∃b,b=m.da.l.all smDa:=⟨_,rfl⟩;rw[<-hB7];have HP7:=hid hB7;clear hb1 hB7))
  |(go_at_call 72;((with_reducible refine(H7.out _ HK7.out.bel).mono ?_);rintro e w8 ⟨rfl,hb1⟩;have HK8:=hid (HK7.out.next hb1);have hl8:=HK8.out.1;obtain⟨b8,hB8⟩:∃b,b=m.cu.l.all smCu:=⟨_,rfl⟩;rw[<-hB8];have HP8:=hid hB8;clear hb1 hB8)))
 all_goals
  go_ret
  first
  |exact⟨by unfold smallM;rw[<-HP0.out];rw[<-HP1.out];rw[<-HP2.out];rw[<-HP3.out];rw[<-HP4.out];rw[<-HP5.out];rw[<-HP6.out];rw[<-HP7.out];rw[<-HP8.out];simp_all,HK8.out.bel⟩
  |exact⟨by unfold smallM;rw[<-HP0.out];rw[<-HP1.out];rw[<-HP2.out];rw[<-HP3.out];rw[<-HP4.out];rw[<-HP5.out];rw[<-HP6.out];rw[<-HP7.out];simp_all,HK7.out.bel⟩
  |exact⟨by unfold smallM;rw[<-HP0.out];rw[<-HP1.out];rw[<-HP2.out];rw[<-HP3.out];rw[<-HP4.out];rw[<-HP5.out];rw[<-HP6.out];simp_all,HK6.out.bel⟩
  |exact⟨by unfold smallM;rw[<-HP0.out];rw[<-HP1.out];rw[<-HP2.out];rw[<-HP3.out];rw[<-HP4.out];rw[<-HP5.out];simp_all,HK5.out.bel⟩
  |exact⟨by unfold smallM;rw[<-HP0.out];rw[<-HP1.out];rw[<-HP2.out];rw[<-HP3.out];rw[<-HP4.out];simp_all,HK4.out.bel⟩
  |exact⟨by unfold smallM;rw[<-HP0.out];rw[<-HP1.out];rw[<-HP2.out];rw[<-HP3.out];simp_all,HK3.out.bel⟩
  |exact⟨by unfold smallM;rw[<-HP0.out];rw[<-HP1.out];rw[<-HP2.out];simp_all,HK2.out.bel⟩
  |exact⟨by unfold smallM;rw[<-HP0.out];rw[<-HP1.out];simp_all,HK1.out.bel⟩
  |exact⟨by unfold smallM;rw[<-HP0.out];simp_all,HK0.out.bel⟩
end Go.Proofs.YteoijlfipmaoeaaGreatDoor
namespace Go.Proofs.YteoijlfipmaoeaaGreatDoor
open Go.RowKit Trx
open Go.Proofs.Tryz
namespace Sect
theorem rise_mem:∀(l:List Int) (hi:Int),rise hi l=true->0<=hi->∀i∈l,0<=i/\i<=11
 | [],_,_,_,i,h=>by simp at h
 |a::r,hi,hr,h0,i,h=>by
  rw[rise,zp]at hr
  have hf:=fol_range hr.1 h0
  rcases List.mem_cons.1 h with rfl|h
  ·exact hf
  ·exact rise_mem r _ hr.2 (by omega) i h
theorem encL_take(l:List (Int×List UInt8))(j:Nat):(encL (l.take j)).length<=(encL l).length:=by
 have h:encL (l.take j)++encL (l.drop j)=encL l:=by
  unfold encL
  rw[<-List.flatMap_append,jw]
 have:=congrArg List.length h
 rw[zz]at this
 omega
theorem encL_take_succ(l:List (Int×List UInt8))(j:Nat)(h:j<l.length):encL (l.take (j+1))=encL (l.take j)++encS l[j]:=by
 rw[ql h,encL_snoc]
end Sect
theorem PutU_b(n:Nat)(w:World)(h:n<18446744073709551616):
  Calls prog 113 #[.int .u64 n] w λe w'=>∃A c,e=.returned (.slice A (Leb.putU n).length c)/\Sl w' w'.heap.size A (u8s (Leb.putU n))/\Below w.heap.size w w':=by
 refine(PutU_any n w h).mono ?_
 rintro e w' ⟨s,rfl,ho⟩
 obtain⟨A,c,rfl,-,-,hs⟩:=ho.bytes
 exact⟨A,c,rfl,hs,ho.below⟩
def RiseL(l:List Sc)(w:World)(h i:Value)(wr:World):Prop:=∃(j:Nat) (hi:Int),i=.int .i64 j/\h=.int .i64 hi/\j<=l.length/\0<=hi/\hi<=11/\Hid (Sect.rise 0 (l.map (·.id))=Sect.rise hi ((l.drop j).map (·.id)))/\Below w.heap.size w wr
theorem rise_any(l:List Sc)(A:Option Addr)(c:Nat)(w:World)(hs:SecsAt w w.heap.size A l)(hl:l.length<=1000000):
  Calls prog 112 #[.slice A l.length c] w λe w'=>e=.returned (.bool (Sect.rise 0 (l.map (·.id))))/\Below w.heap.size w w':=by
 have HS:=Lib.hid hs
 obtain⟨R,hR⟩:∃R,Sect.rise 0 (l.map (·.id))=R:=⟨_,rfl⟩
 rw[hR]
 have HR:=Lib.hid hR
 clear hs hR
 go_enter func112,ntmps112
 go_wp2_with fail
 go_loopw [3,8] (λh i wr=>RiseL l w h i wr) (λ_ i _=>l.length-(intOf i).toNat)
 case atStart=>exact⟨0,0,rfl,rfl,by omega,by omega,by omega,Lib.hid rfl,zx _ _⟩
 case round=>
  obtain⟨j,hi,rfl,rfl,hj,hi0,hi11,HE,hb⟩:=hrel
  by_cases hlt:j<l.length
  ·
   obtain⟨s,hse⟩:∃s,l[j]=s:=⟨_,rfl⟩
   obtain⟨b,o,rfl,hbl,q0,q1,q2,hok⟩:=(HS.out.below hb).at_ hlt
   rw[hse]at q0 q1 q2 hok
   have hid:=hok.id
   have HF:=Lib.hid (λw'=>follows_any s.id hi w' hid (by unfold inI;omega))
   have hbl':=zj hbl hb.size
   have hE:=HE.out
   rw[ji hlt,hse,qu,Sect.rise]at hE
   obtain⟨f,hf⟩:∃f,Sect.fol s.id hi=f:=⟨_,rfl⟩
   rw[hf]at HF hE
   have HE2:=Lib.hid hE
   have HB:=Lib.hid hb
   unfold inI at hid
   clear hok hE hse hb
   cases f
   ·
    go_wp2_with(first
     |(go_at_call 129;(with_reducible refine(HF.out _).mono ?_);rintro e w1 ⟨rfl,hw1⟩;subst hw1))
    go_ret
    exact⟨by rw[<-HR.out,HE2.out];rfl,HB.out.alloc HB.out.size _⟩
   ·
    have hxr:=Sect.fol_range hf hi0
    have hmx:(s.id<=hi/\max hi s.id=hi)\/(¬s.id<=hi/\max hi s.id=s.id):=by omega
    rcases hmx with⟨hmx,hme⟩|⟨hmx,hme⟩
    all_goals
     rw[hme]at HE2
     go_wp2_with(first
      |(go_at_call 129;(with_reducible refine(HF.out _).mono ?_);rintro e w1 ⟨rfl,hw1⟩;subst hw1))
     go_roundw
     case rel=>exact⟨j+1,_,by go_num,rfl,by omega,by omega,by omega,Lib.hid (by rw[HE2.out];rfl),HB.out.alloc HB.out.size _⟩
     case measure=>simp[intOf];omega
  ·
   have hj':j=l.length:=by omega
   have hE:=HE.out
   rw[hj',List.drop_length]at hE
   have HE2:=Lib.hid hE
   clear hE hj'
   go_wp2_with fail
   go_ret
   exact⟨by rw[<-HR.out,HE2.out];rfl,hb⟩
def mayJ(l:List Sc):Bool:=decide (l.length<=128)&&Sect.rise 0 (l.map (·.id))
def jnB(l:List Sc):List UInt8:=Sect.magic++Sect.encL (l.map Sc.key)
def JoinR(l:List Sc)(w:World):Ending->World->Prop:=match mayJ l with
 |true=>λe w'=>∃g c,e=.returned (.tuple #[.slice (some ⟨g,0,none⟩) (jnB l).length c,.nilIface])/\(jnB l).length<=c/\c<=maxLen/\Lies w w' g (jnB l)
 |false=>λe w'=>e=.returned (.tuple #[.slice none 0 0,.iface 40 (.int .i64 1)])/\Below w.heap.size w w'
def JoinL(l:List Sc)(w:World)(v i:Value)(wr:World):Prop:=∃(j:Nat),i=.int .i64 j/\j<=l.length/\OwH w wr v (jnB (l.take j))
theorem jnB_ne(l:List Sc):jnB l≠[]:=by simp[jnB,Sect.magic]
theorem jnB_take(l:List Sc)(j:Nat):(jnB (l.take j)).length<=(jnB l).length:=by
 unfold jnB
 rw[xu]
 have:=Sect.encL_take (l.map Sc.key) j
 simp only[zz]
 omega
theorem jnB_succ(l:List Sc)(j:Nat)(h:j<l.length):jnB (l.take (j+1))=jnB (l.take j)++Sect.encS (l[j].key):=by
 unfold jnB
 rw[xu,Sect.encL_take_succ _ _ (by simpa using h),xu,zt]
 simp
theorem jnB_mem(l:List Sc)(j:Nat)(h:j<l.length):(jnB (l.take j)).length+(Sect.encS (l[j].key)).length<=(jnB l).length:=by
 have h1:=jnB_take l (j+1)
 rw[jnB_succ l j h,zz]at h1
 exact h1
structure Bx3(w:World)(g:Nat)(s:Sc):Prop where
 c0:w.cell? ⟨g,0,none⟩=some (.int .i64 s.id)
 c1:w.cell? ⟨g,1,none⟩=some (.int .i64 s.at_)
 c2:w.cell? ⟨g,2,none⟩=some (.slice s.A s.bs.length s.c)
theorem Bx3.new(w:World)(s:Sc)(t:TypeId)(n:Nat)(hn:n=w.heap.size):Bx3 (w.alloc (.cells #[.int .i64 s.id,.int .i64 s.at_,.slice s.A s.bs.length s.c] t)) n s:=by
 subst hn
 exact⟨zv _ _ _ _ rfl,zv _ _ _ _ rfl,zv _ _ _ _ rfl⟩
theorem Bx3.kp{w w':World}{g:Nat}{s:Sc}{v v':Value}(h:Bx3 w g s)(hk:Kp w v w' v')(hv:v.ownBlock≠some g):Bx3 w' g s:=by
 have hl:=zn _ _ h.c0
 exact⟨(hk.cell hl hv).trans h.c0,(hk.cell hl hv).trans h.c1,(hk.cell hl hv).trans h.c2⟩
theorem Bx3.below{w w':World}{g:Nat}{s:Sc}(h:Bx3 w g s)(hb:Below w.heap.size w w'):Bx3 w' g s:=by
 have hl:=zn _ _ h.c0
 exact⟨(hb.cell (p:=⟨g,0,none⟩) hl).trans h.c0,(hb.cell (p:=⟨g,1,none⟩) hl).trans h.c1,(hb.cell (p:=⟨g,2,none⟩) hl).trans h.c2⟩
theorem Join_any(l:List Sc)(A:Option Addr)(c:Nat)(w:World)(hs:SecsAt w w.heap.size A l)(hl:l.length<=1000000)(hL:(jnB l).length<=100000000):
  Calls prog 22 #[.slice A l.length c] w (JoinR l w):=by
 by_cases h128:128<l.length
 ·
  have hm:mayJ l=false:=by unfold mayJ;simp;omega
  unfold JoinR
  rw[hm]
  dsimp only
  clear hm hs hL
  go_enter func22,ntmps22
  go_wp2_with fail
  go_ret2
  exact⟨rfl,zx _ _⟩
 ·
  have HRi:=Lib.hid (rise_any l A c w hs (by omega))
  have h128':l.length<=128:=by omega
  obtain⟨r,hr⟩:∃r,Sect.rise 0 (l.map (·.id))=r:=⟨_,rfl⟩
  rw[hr]at HRi
  have hm:mayJ l=r:=by unfold mayJ;rw[hr];simp;omega
  cases r
  ·
   unfold JoinR
   rw[hm]
   dsimp only
   clear hm hs hL hr
   go_enter func22,ntmps22
   go_wp2_with(first|(go_at_call 112;(with_reducible refine HRi.out.mono ?_);rintro e w1 ⟨rfl,hb1⟩;have HB1:=Lib.hid hb1;clear hb1))
   go_ret2
   exact⟨rfl,HB1.out⟩
  ·
   unfold JoinR
   rw[hm]
   dsimp only
   have HS:=Lib.hid hs
   have HMem:=Lib.hid (Sect.rise_mem _ _ hr (by omega))
   have HL:=Lib.hid hL
   have HPu:=Lib.hid (λn w'=>PutU_b n w')
   have kc:=λ(w:World) (C:Array Value) (n c:Nat)=>Lib.run_convert_bytes_const (P:=prog) w 35 5 C n c underlying35 underlying5
   clear hm hs hr hL
   go_enter func22,ntmps22
   go_wp2_with(first|(go_at_call 112;(with_reducible refine HRi.out.mono ?_);rintro e w1 ⟨rfl,hb1⟩;have HB1:=Lib.hid hb1;clear hb1))
   clear kc
   go_loopw [4,20] (λv i wr=>JoinL l w v i wr) (λ_ i _=>l.length-(intOf i).toNat)
   case atStart=>exact⟨0,rfl,by omega,.inr ⟨_,rfl,(Lies.const w1 Sect.magic _ rfl _ _ rfl _ rfl).base HB1.out⟩⟩
   case round=>
    obtain⟨j,rfl,hj,ho⟩:=hrel
    by_cases hlt:j<l.length
    ·
     have hb:=ho.below
     obtain⟨s,hse⟩:∃s,l[j]=s:=⟨_,rfl⟩
     obtain⟨b,o,rfl,hbl,q0,q1,q2,hok⟩:=(HS.out.below hb).at_ hlt
     have hle:=jnB_mem l j hlt
     rw[hse]at q0 q1 q2 hok hle
     rw[Sect.encS_length]at hle
     have hsm:s.id∈l.map (·.id):=List.mem_map.2 ⟨s,by rw[<-hse];exact jf hlt,rfl⟩
     have hi01:=HMem.out _ hsm
     have hi0:=hi01.1
     have hi11:=hi01.2
     have hLL:=HL.out
     have hbl':=zj hbl hb.size
     have hle2:(jnB (l.take j)).length+s.bs.length+20<=200000000:=by have:=hle;simp only[Sc.key]at this;omega
     have h8:((UInt8.ofNat s.id.toNat).toNat:Int)=s.id:=by rw[Leb.toNat_ofNat (by omega)];omega
     have hp10:(Leb.putU s.bs.length).length<=10:=Leb.putU_len10 (by omega)
     have hslen:s.bs.length<18446744073709551616:=by omega
     obtain⟨pf,hpf⟩:∃pf,jnB (l.take j)=pf:=⟨_,rfl⟩
     rw[hpf]at ho hle2
     have HO:=Lib.hid ho
     have HB:=Lib.hid hb
     have HOk:=Lib.hid (HS.out.all s (by rw[<-hse];exact jf hlt))
     have HSe:=Lib.hid hse
     have HPf:=Lib.hid hpf
     clear ho hb hok hle hsm hi01 hLL hse hpf
     go_wp2_with(first
      |(at_builtin;refine wpl_head rfl (.tmp 24) (.tmp 28) rfl [UInt8.ofNat s.id.toNat] rfl (HO.out.later (((zx _ _).alloc (zq _) _).alloc (by simp) _)) rfl (Sl.newbyte _ _ _ h8 _ _ (by simp)) rfl (by simp) (by omega) ?_;intro v1 w2 ho2 hk2;have hx2:=((Bx3.new wr s 82 _ rfl).below ((zx _ _).alloc (zq _) _)).kp hk2 (HO.out.new (zq _));have e0:=hx2.c0;have e1:=hx2.c1;have e2:=hx2.c2;have HO2:=Lib.hid ho2;have HX2:=Lib.hid hx2;have HN2:=Lib.hid ((hk2.keep wr.heap.size (by simp;omega) (HO.out.new (zq _))).2);have hl2:=zn _ _ e0;clear ho2 hk2 hx2)
      |(go_at_call 113;(with_reducible refine(HPu.out _ _ hslen).mono ?_);rintro e w3 ⟨A3,c3,rfl,hs3,hb3⟩;have hx3:=HX2.out.below hb3;have g0:=hx3.c0;have g1:=hx3.c1;have g2:=hx3.c2;have HO3:=Lib.hid (HO2.out.later hb3);have HX3:=Lib.hid hx3;have HS3:=Lib.hid hs3;have hl3:=zn _ _ g0;clear hs3 hb3 hx3)
      |(at_builtin;refine wpl_bytes rfl (.tmp 30) (.tmp 35) rfl (Leb.putU s.bs.length) rfl HO3.out rfl HS3.out rfl (by simp;omega) ?_;intro v4 w4 ho4 hk4;have hx4:=HX3.out.kp hk4 HN2.out;have f0:=hx4.c0;have f1:=hx4.c1;have f2:=hx4.c2;have HO4:=Lib.hid ho4;have hl4:=zn _ _ f0;clear ho4 hk4 hx4)
      |(at_builtin;refine wpl_bytes rfl (.tmp 37) (.tmp 39) rfl s.bs rfl HO4.out rfl (HOk.out.sl.below (OwB.below HO4.out)) rfl (by simp;omega) ?_;intro v5 w5 ho5 hk5;have HO5:=Lib.hid ho5;clear ho5 hk5))
     go_roundw
     case rel=>
      refine⟨j+1,by go_num,by omega,.inl ?_⟩
      rw[jnB_succ l j hlt,HSe.out,HPf.out]
      have h:=HO5.out
      rw[zt,zt]at h
      exact h
     case measure=>simp[intOf];omega
    ·
     have hj':j=l.length:=by omega
     rw[hj',xo]at ho
     obtain⟨g,c',rfl,h1,h2,h3⟩:=ho.lies (jnB_ne l) (by have:=HL.out;unfold maxLen;omega)
     have H1:=Lib.hid h1
     have H2:=Lib.hid h2
     have H3:=Lib.hid h3
     clear ho hj' h1 h2 h3
     go_wp2_with fail
     go_ret2
     exact⟨g,c',rfl,H1.out,H2.out,H3.out⟩
end Go.Proofs.YteoijlfipmaoeaaGreatDoor
namespace Go.Proofs.YteoijlfipmaoeaaGreatDoor
open Go.RowKit Trx
theorem Sect.split_ok(bs:List UInt8)(t:List Sect.Pt)(h:Sect.split bs=.ok t):bs.take 8=Sect.magic/\Sect.rise 0 (t.map (·.id))=true/\t.length<=128/\8+(Sect.encL (t.map Sect.Pt.key)).length<=bs.length/\∀s∈t,s.bs.length<=bs.length:=by
 unfold Sect.split at h
 split at h
 ·
  rename_i hm
  obtain⟨h1,h2,h3,h4⟩:=Sect.spl_ok _ _ _ _ _ _ (zq _) h (by omega)
  have h8:8<=bs.length:=by have:=congrArg List.length hm;simp[Sect.magic]at this;omega
  rw[qc]at h3
  refine⟨hm,h1,by omega,by omega,λs hs=>?_⟩
  have:=(h4 s hs).1
  rw[qc]at this
  omega
 ·cases h
theorem op_pushK{P:Program}{e:TypeId}{k:Nat}{w:World}{o:Oper}{a:Act}{K:Act->World->Prop}{Q:Exit->Act->World->Prop}{B:Nat}{w0:World}{v:Value}{rs:List (List Value)}(s x:Operand)(t:TypeId)(ho:o.op=.call {callee:=.builtin .append,args:=#[s,x],argTypes:=#[t,t]})(y:Nat)(ht:P.underlying t=some (.slice e))(hE:ElemK P e k y)(hk:0<k)
  (row:List Value) (c n:Nat) (hs:a.eval s=v) (h:OwnK B w0 w e k v rs) (hx:a.eval x=.slice (some ⟨n,0,none⟩) 1 c) (hr:row.length=k) (hcell:∀j u,row[j]? =some u->w.cell? ⟨n,j,none⟩=some u) (h1:∀u∈row,u.oneCell'=true) (hby:(rs.length+1) * y<=140737488355328) (hm:rs.length+1<=maxLen)
  (cont:∀v' w',OwnK B w0 w' e k v' (rs++[row])->(∀m,m<w.heap.size->v.ownBlock≠some m->w'.heap[m]? =w.heap[m]?/\v'.ownBlock≠some m)->w.heap.size<=w'.heap.size->K (a.put o.dst v') w'):Oper.wp P o a w K Q:=by
 obtain⟨i,z,hi,hz,hsz,hyy,hzs⟩:=hE
 obtain⟨v',w',hrun,h2,h3,_,h5⟩:=run_append_own_at (P:=P) w B t o.type e i z k y ht hi hz hsz hyy hzs hk v rs.length rs.flatten h.row ⟨n,0,none⟩ 1 c row (by simp[hr]) (λj u hj=>by rw[add_at,qz];exact hcell j u hj) h1 hm hby h.le
 have hown:OwnK B w0 w' e k v' (rs++[row]):=by
  refine⟨by simpa using h2,λr hr'=>?_,h.below.grown h3 h.le (λg hg'=>(h.row.lt g hg').1),zy h.le h3.size⟩
  rcases List.mem_append.1 hr' with h6|h6
  ·exact h.len r h6
  ·
   simp at h6
   subst h6
   exact hr
 unfold Oper.wp execOp
 simp only[ho,resolve,invoke,builtin,Sem.run_bind,Sem.run_pure,Result.andThen_ok,xi,qu,je,hs,hx,hrun]
 refine cont v' w' hown (λm hm' hne=>⟨h3.block m hm' (λe=>hne e.symm),?_⟩) h3.size
 rcases h5 with h5|h5
 ·rw[h5];exact hne
 ·rw[h5];simp;omega
end Go.Proofs.YteoijlfipmaoeaaGreatDoor
