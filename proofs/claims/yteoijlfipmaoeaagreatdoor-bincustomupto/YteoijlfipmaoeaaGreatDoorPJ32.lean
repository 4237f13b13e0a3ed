import Derived.Test.YteoijlfipmaoeaaGreatDoorPJ31
set_option linter.unusedVariables false
set_option linter.unusedSimpArgs false
set_option maxRecDepth 100000
set_option maxHeartbeats 16000000
namespace Go.Proofs.YteoijlfipmaoeaaGreatDoor
open Lib (hid)
open Go.RowKit Trx
open Go.Proofs.Tryz
theorem start_any{W:Nat}{w0 w:World}{v u:Value}{bs:List UInt8}{bad:Bool}{n1 n2:Nat}(st:Int)(hst:inI st)(h:Wr W w0 w v u bs bad)(q1:w.cell? ⟨n1,0,none⟩=some (pW W))(q2:w.cell? ⟨n2,7,none⟩=some (.int .i64 st))(hL:bs.length+(Bin.pNum st).1.length<=100000000):
  Calls prog 99 #[.pointer (some ⟨n1,0,none⟩),.pointer (some ⟨n2,0,none⟩)] w (WrP W w0 w v u bs bad (Bin.pNum st)):=by
 have HP:=hid (number_any st hst h hL)
 clear h hL
 unfold WrP at HP⊢
 go_enter func99,ntmps99
 go_wp2_with(first|(go_at_call 84;(with_reducible refine HP.out.mono ?_);rintro e w1 ⟨rfl,v1,hw1,hk1⟩;have HW1:=hid hw1;have HK1:=hid hk1;clear hw1 hk1))
 go_end0
 exact⟨rfl,v1,HW1.out,HK1.out⟩
theorem custom_any{W:Nat}{w0 w:World}{v u:Value}{bs:List UInt8}{bad:Bool}{n1 n2:Nat}(x:Cu)(hx:x.ok w0 w0.heap.size)(hT:U8T w0)(h:Wr W w0 w v u bs bad)(hB1:Bx W w v n1 [pW W])(hB2:Bx W w v n2 [.string x.nm,.slice x.bs.A x.bs.bs.length x.bs.c])(hL:bs.length+(Bin.pCu (kCu x)).1.length<=100000000):
  Calls prog 111 #[.pointer (some ⟨n1,0,none⟩),.pointer (some ⟨n2,0,none⟩)] w (WrP W w0 w v u bs bad (Bin.pCu (kCu x))):=by
 have hL':bs.length+((Bin.pName x.nm).1.length+x.bs.bs.length)<=100000000:=by simpa[Bin.pCu,kCu,Bin.cat]using hL
 have e:Bin.pCu (kCu x)=Bin.cat (Bin.pName x.nm) (x.bs.bs,true):=rfl
 rw[e]
 have HP:=hid (wname_any x.nm hT h (by omega))
 have HB1:=hid hB1
 have HB2:=hid hB2
 have HX:=hid hx
 have q1:=hB1.cell 0 _ rfl
 have q2:=hB2.cell 0 _ rfl
 clear h hL hx hT e hB1 hB2
 unfold WrP at HP⊢
 go_enter func111,ntmps111
 go_wp2_with(first|(go_at_call 80;(with_reducible refine HP.out.mono ?_);rintro e w1 ⟨rfl,v1,hw1,hk1⟩;have HW1:=hid hw1;have HK1:=hid hk1;have HC1:=hid (HB1.out.kw hk1);have HC2:=hid (HB2.out.kw hk1);clear hw1 hk1))
 obtain⟨W1,hW1⟩:∃W1:World,W1=w1.drew:=⟨_,rfl⟩
 have HW2:Hid (Wr W w0 W1 v1 u (bs++(Bin.pName x.nm).1) (bad || !(Bin.pName x.nm).2)):=hid (by rw[hW1];exact HW1.out.drewN 1)
 have HK2:Hid (Kw W w v W1 v1):=hid (by rw[hW1];exact HK1.out.drewN 1)
 have HD1:Hid (Bx W W1 v1 n1 [pW W]):=hid (by rw[hW1];exact⟨HC1.out.cell,HC1.out.ne,HC1.out.nv,HC1.out.lt⟩)
 have HD2:Hid (Bx W W1 v1 n2 [.string x.nm,.slice x.bs.A x.bs.bs.length x.bs.c]):=hid (by rw[hW1];exact⟨HC2.out.cell,HC2.out.ne,HC2.out.nv,HC2.out.lt⟩)
 refine wp_region_held_drew (S:=λw'=>w'.cell? ⟨n1,0,none⟩=some (pW W)/\w'.cell? ⟨n2,1,none⟩=some (.slice x.bs.A x.bs.bs.length x.bs.c)) (by kernel_rfl) (by rw[<-hW1];exact⟨HD1.out.cell 0 _ rfl,HD2.out.cell 1 _ rfl⟩) (λhHeld=>?_)
 rw[<-hW1]at hHeld⊢
 have c0:=HW2.out.c0
 clear hW1 HW1 HK1 HC1 HC2
 refine rtk 0 6 ?_
 refine rtk 1 7 ?_
 refine rtk 2 8 ?_
 refine rtk 3 9 ?_
 refine rtk 5 11 ?_
 refine rtk 6 12 ?_
 refine rcl 4 λK hK=>?_
 go_simp
 refine rbk hK ⟨HD1.out.cell 0 _ rfl,HD2.out.cell 1 _ rfl⟩ λhHeld=>?_;clear hK K
 refine rcl 7 λK hK=>?_
 refine wanted_yes' (by rfl) ?_
 refine op_bytes (.tmp 10) (.tmp 12) rfl x.bs.bs rfl (HW2.out.ob) rfl (HX.out.bs.sl.below HW2.out.below) rfl (by simp;omega) ?_
 intro v4 w4 ho4 hk4
 obtain⟨A4,n4,d4,rfl⟩:=ho4.is_slice
 have g0:=(zm (hk4.keep W HW2.out.lt HW2.out.vW).1).trans HW2.out.c0
 have gf:=(qv (hk4.keep W HW2.out.lt HW2.out.vW).1).trans (HW2.out.fr 0)
 have HF:=hid (HW2.out.put ho4 hk4)
 have HK4:=hid ((HK2.out.trans (Kw.of_kp hk4)).set 0 (.slice A4 n4 d4))
 have HE1:=hid (HD1.out.kw (Kw.of_kp hk4))
 have HE2:=hid (HD2.out.kw (Kw.of_kp hk4))
 clear ho4 hk4
 refine rbk hK ⟨HE1.out.cell 0 _ rfl,HE2.out.cell 1 _ rfl⟩ λhHeld=>?_;clear hK K
 refine rtk 8 14 ?_
 refine rtk 9 15 ?_
 refine rcl 10 λK hK=>?_
 go_simp
 have n1W:(⟨n1,0,none⟩:Addr)≠⟨W,0,none⟩:=λe=>by injection e with e;exact HE1.out.ne e
 have n2W:(⟨n2,1,none⟩:Addr)≠⟨W,0,none⟩:=λe=>by injection e with e;exact HE2.out.ne e
 refine rbk hK ⟨(zk _ _ _ _ n1W.symm).trans (HE1.out.cell 0 _ rfl),(zk _ _ _ _ n2W.symm).trans (HE2.out.cell 1 _ rfl)⟩ λhHeld=>?_;clear hK K
 refine wpAnyH_done (by kernel_rfl) ?_ _
 go_wp2_with fail
 go_end0
 exact⟨rfl,_,HF.out.eq (by simp[Bin.cat]) (by cases bad<;>simp[Bin.cat]),HK4.out⟩
structure MoS(m:Mo):Prop where
 ty:m.ty.l.length<=64/\∀x∈m.ty.l,Bin.sFt (kTy x)
 im:m.im.l.length<=64
 fn:m.fn.l.length<=64/\∀x∈m.fn.l,x.lo.zs.length<=64/\wt x.bo.f<=2200000
 ta:m.ta.l.length<=64
 me:m.me.l.length<=64
 gl:m.gl.l.length<=64/\∀x∈m.gl.l,wt (ofN [x.i.n])<=2200000
 ex:m.ex.l.length<=64
 el:m.el.l.length<=64/\∀x∈m.el.l,wt (ofN [x.i.n])<=2200000/\x.fs.zs.length<=64
 da:m.da.l.length<=64/\∀x∈m.da.l,wt (ofN [x.i.n])<=2200000
 cu:m.cu.l.length<=64
 tyL:(Bin.pList Bin.pFt (m.ty.l.map kTy)).1.length<=100000000
 imL:(Bin.pList Bin.pIm m.im.l).1.length<=100000000
 ftL:(Bin.pList Bin.pNum (m.fn.l.map Fn.ty)).1.length<=100000000
 taL:(Bin.pList Bin.pTab m.ta.l).1.length<=100000000
 meL:(Bin.pList Bin.pLim m.me.l).1.length<=100000000
 glL:(Bin.pList Bin.pGl (m.gl.l.map kGl)).1.length<=100000000
 exL:(Bin.pList Bin.pEx m.ex.l).1.length<=100000000
 elL:(Bin.pList Bin.pEl (m.el.l.map kEl)).1.length<=100000000
 fnL:(Bin.pList Bin.pFn (m.fn.l.map λx=>(kFn x).2)).1.length<=100000000
 daL:(Bin.pList Bin.pDa (m.da.l.map kDa)).1.length<=100000000
 cuL:∀x∈m.cu.l,(Bin.pCu (kCu x)).1.length<=100000000
namespace Bin
theorem pAll_map{α β:Type}(p:β->Pc)(f:α->β)(l:List α):pAll (λx=>p (f x)) l=pAll p (l.map f):=by
 induction l with
 |nil=>rfl
 |cons x l ih=>rw[qu,pAll_cons,pAll_cons,ih]
theorem pList_map{α β:Type}(p:β->Pc)(f:α->β)(l:List α):pList (λx=>p (f x)) l=pList p (l.map f):=by
 unfold pList
 rw[pAll_map,zd]
theorem opt_map{α β:Type}(id:Int)(p:β->Pc)(f:α->β)(l:List α):opt id (λx=>p (f x)) l=opt id p (l.map f):=by
 unfold opt
 rw[pList_map]
 cases l<;>rfl
end Bin
section
variable{W B0:Nat}{w0 w:World}{u:Value}{ss:List Sc}{bad:Bool}{m:Mo}
theorem secTy_any(hm:m.ok w0 w0.heap.size)(hs:MoS m)(hN:Nam w0)(hT:U8T w0)(h:Ws W w0 w u ss bad)(hss:ss.length<=1000)(hB:Bx W w u B0 [pW W]):
  Calls prog 74 #[pW W,.int .i64 1,.slice m.ty.A m.ty.l.length m.ty.c,.func (.func 75) #[] #[.pointer (some ⟨B0,0,none⟩)]] w (SecP W w0 w u ss bad (Bin.opt 1 Bin.pFt (m.ty.l.map kTy)) (Bin.pList Bin.pFt (m.ty.l.map kTy)).2):=by
 have e1:=Bin.opt_map 1 Bin.pFt kTy m.ty.l
 have e2:=Bin.pList_map Bin.pFt kTy m.ty.l
 have hL:=hs.tyL
 rw[<-e2]at hL
 rw[<-e1,<-e2]
 exact putSec_any .Ty _ 1 (by unfold inI;omega) m.ty.l m.ty.A m.ty.c (hs.ty.1) h hss hB hm.ty.rows hL (λx hx w' v' bs' bad' hw hb hl=>declTy_any x (hm.ty.all x hx) (hs.ty.2 x hx) hw hb hl)
theorem secIm_any(hm:m.ok w0 w0.heap.size)(hs:MoS m)(hN:Nam w0)(hT:U8T w0)(h:Ws W w0 w u ss bad)(hss:ss.length<=1000)(hB:Bx W w u B0 [pW W]):
  Calls prog 78 #[pW W,.int .i64 2,.slice m.im.A m.im.l.length m.im.c,.func (.func 79) #[] #[.pointer (some ⟨B0,0,none⟩)]] w (SecP W w0 w u ss bad (Bin.opt 2 Bin.pIm m.im.l) (Bin.pList Bin.pIm m.im.l).2):=by
 have hL:=hs.imL
 exact putSec_any .Im _ 2 (by unfold inI;omega) m.im.l m.im.A m.im.c (hs.im) h hss hB hm.im.rows hL (λx hx w' v' bs' bad' hw hb hl=>declIm_any x (hm.im.all x hx) hT hw hb hl)
theorem secFt_any(hm:m.ok w0 w0.heap.size)(hs:MoS m)(hN:Nam w0)(hT:U8T w0)(h:Ws W w0 w u ss bad)(hss:ss.length<=1000)(hB:Bx W w u B0 [pW W]):
  Calls prog 82 #[pW W,.int .i64 3,.slice m.fn.A m.fn.l.length m.fn.c,.func (.func 83) #[] #[.pointer (some ⟨B0,0,none⟩)]] w (SecP W w0 w u ss bad (Bin.opt 3 Bin.pNum (m.fn.l.map Fn.ty)) (Bin.pList Bin.pNum (m.fn.l.map Fn.ty)).2):=by
 have e1:=Bin.opt_map 3 Bin.pNum Fn.ty m.fn.l
 have e2:=Bin.pList_map Bin.pNum Fn.ty m.fn.l
 have hL:=hs.ftL
 rw[<-e2]at hL
 rw[<-e1,<-e2]
 exact putSec_any .Ft _ 3 (by unfold inI;omega) m.fn.l m.fn.A m.fn.c (hs.fn.1) h hss hB hm.fn.rows hL (λx hx w' v' bs' bad' hw hb hl=>declFt_any x (hm.fn.all x hx) hw hb hl)
theorem secTa_any(hm:m.ok w0 w0.heap.size)(hs:MoS m)(hN:Nam w0)(hT:U8T w0)(h:Ws W w0 w u ss bad)(hss:ss.length<=1000)(hB:Bx W w u B0 [pW W]):
  Calls prog 85 #[pW W,.int .i64 4,.slice m.ta.A m.ta.l.length m.ta.c,.func (.func 86) #[] #[.pointer (some ⟨B0,0,none⟩)]] w (SecP W w0 w u ss bad (Bin.opt 4 Bin.pTab m.ta.l) (Bin.pList Bin.pTab m.ta.l).2):=by
 have hL:=hs.taL
 exact putSec_any .Ta _ 4 (by unfold inI;omega) m.ta.l m.ta.A m.ta.c (hs.ta) h hss hB hm.ta.rows hL (λx hx w' v' bs' bad' hw hb hl=>declTa_any x (hm.ta.all x hx) hw hb hl)
theorem secMe_any(hm:m.ok w0 w0.heap.size)(hs:MoS m)(hN:Nam w0)(hT:U8T w0)(h:Ws W w0 w u ss bad)(hss:ss.length<=1000)(hB:Bx W w u B0 [pW W]):
  Calls prog 85 #[pW W,.int .i64 5,.slice m.me.A m.me.l.length m.me.c,.func (.func 88) #[] #[.pointer (some ⟨B0,0,none⟩)]] w (SecP W w0 w u ss bad (Bin.opt 5 Bin.pLim m.me.l) (Bin.pList Bin.pLim m.me.l).2):=by
 have hL:=hs.meL
 exact putSec_any .Me _ 5 (by unfold inI;omega) m.me.l m.me.A m.me.c (hs.me) h hss hB hm.me.rows hL (λx hx w' v' bs' bad' hw hb hl=>declMe_any x (hm.me.all x hx) hw hb hl)
theorem secGl_any(hm:m.ok w0 w0.heap.size)(hs:MoS m)(hN:Nam w0)(hT:U8T w0)(h:Ws W w0 w u ss bad)(hss:ss.length<=1000)(hB:Bx W w u B0 [pW W]):
  Calls prog 90 #[pW W,.int .i64 6,.slice m.gl.A m.gl.l.length m.gl.c,.func (.func 91) #[] #[.pointer (some ⟨B0,0,none⟩)]] w (SecP W w0 w u ss bad (Bin.opt 6 Bin.pGl (m.gl.l.map kGl)) (Bin.pList Bin.pGl (m.gl.l.map kGl)).2):=by
 have e1:=Bin.opt_map 6 Bin.pGl kGl m.gl.l
 have e2:=Bin.pList_map Bin.pGl kGl m.gl.l
 have hL:=hs.glL
 rw[<-e2]at hL
 rw[<-e1,<-e2]
 exact putSec_any .Gl _ 6 (by unfold inI;omega) m.gl.l m.gl.A m.gl.c (hs.gl.1) h hss hB hm.gl.rows hL (λx hx w' v' bs' bad' hw hb hl=>declGl_any x (hm.gl.all x hx) hN (hs.gl.2 x hx) hw hb hl)
theorem secEx_any(hm:m.ok w0 w0.heap.size)(hs:MoS m)(hN:Nam w0)(hT:U8T w0)(h:Ws W w0 w u ss bad)(hss:ss.length<=1000)(hB:Bx W w u B0 [pW W]):
  Calls prog 95 #[pW W,.int .i64 7,.slice m.ex.A m.ex.l.length m.ex.c,.func (.func 96) #[] #[.pointer (some ⟨B0,0,none⟩)]] w (SecP W w0 w u ss bad (Bin.opt 7 Bin.pEx m.ex.l) (Bin.pList Bin.pEx m.ex.l).2):=by
 have hL:=hs.exL
 exact putSec_any .Ex _ 7 (by unfold inI;omega) m.ex.l m.ex.A m.ex.c (hs.ex) h hss hB hm.ex.rows hL (λx hx w' v' bs' bad' hw hb hl=>declEx_any x (hm.ex.all x hx) hT hw hb hl)
theorem secEl_any(hm:m.ok w0 w0.heap.size)(hs:MoS m)(hN:Nam w0)(hT:U8T w0)(h:Ws W w0 w u ss bad)(hss:ss.length<=1000)(hB:Bx W w u B0 [pW W]):
  Calls prog 100 #[pW W,.int .i64 9,.slice m.el.A m.el.l.length m.el.c,.func (.func 101) #[] #[.pointer (some ⟨B0,0,none⟩)]] w (SecP W w0 w u ss bad (Bin.opt 9 Bin.pEl (m.el.l.map kEl)) (Bin.pList Bin.pEl (m.el.l.map kEl)).2):=by
 have e1:=Bin.opt_map 9 Bin.pEl kEl m.el.l
 have e2:=Bin.pList_map Bin.pEl kEl m.el.l
 have hL:=hs.elL
 rw[<-e2]at hL
 rw[<-e1,<-e2]
 exact putSec_any .El _ 9 (by unfold inI;omega) m.el.l m.el.A m.el.c (hs.el.1) h hss hB hm.el.rows hL (λx hx w' v' bs' bad' hw hb hl=>declEl_any x (hm.el.all x hx) hN (hs.el.2 x hx).1 (hs.el.2 x hx).2 hw hb hl)
theorem secCo_any(hm:m.ok w0 w0.heap.size)(hs:MoS m)(hN:Nam w0)(hT:U8T w0)(h:Ws W w0 w u ss bad)(hss:ss.length<=1000)(hB:Bx W w u B0 [pW W]):
  Calls prog 82 #[pW W,.int .i64 10,.slice m.fn.A m.fn.l.length m.fn.c,.func (.func 104) #[] #[.pointer (some ⟨B0,0,none⟩)]] w (SecP W w0 w u ss bad (Bin.opt 10 Bin.pFn (m.fn.l.map (λx:Fn=>(kFn x).2))) (Bin.pList Bin.pFn (m.fn.l.map (λx:Fn=>(kFn x).2))).2):=by
 have e1:=Bin.opt_map 10 Bin.pFn (λx:Fn=>(kFn x).2) m.fn.l
 have e2:=Bin.pList_map Bin.pFn (λx:Fn=>(kFn x).2) m.fn.l
 have hL:=hs.fnL
 rw[<-e2]at hL
 rw[<-e1,<-e2]
 exact putSec_any .Co _ 10 (by unfold inI;omega) m.fn.l m.fn.A m.fn.c (hs.fn.1) h hss hB hm.fn.rows hL (λx hx w' v' bs' bad' hw hb hl=>declCo_any x (hm.fn.all x hx) hN (hs.fn.2 x hx).2 (hs.fn.2 x hx).1 hw hb hl)
theorem secDa_any(hm:m.ok w0 w0.heap.size)(hs:MoS m)(hN:Nam w0)(hT:U8T w0)(h:Ws W w0 w u ss bad)(hss:ss.length<=1000)(hB:Bx W w u B0 [pW W]):
  Calls prog 109 #[pW W,.int .i64 11,.slice m.da.A m.da.l.length m.da.c,.func (.func 110) #[] #[.pointer (some ⟨B0,0,none⟩)]] w (SecP W w0 w u ss bad (Bin.opt 11 Bin.pDa (m.da.l.map kDa)) (Bin.pList Bin.pDa (m.da.l.map kDa)).2):=by
 have e1:=Bin.opt_map 11 Bin.pDa kDa m.da.l
 have e2:=Bin.pList_map Bin.pDa kDa m.da.l
 have hL:=hs.daL
 rw[<-e2]at hL
 rw[<-e1,<-e2]
 exact putSec_any .Da _ 11 (by unfold inI;omega) m.da.l m.da.A m.da.c (hs.da.1) h hss hB hm.da.rows hL (λx hx w' v' bs' bad' hw hb hl=>declDa_any x (hm.da.all x hx) hN (hs.da.2 x hx) hw hb hl)
end
theorem SecP.next{W:Nat}{w0 w w1:World}{u u1:Value}{ss ns:List Sc}{bad:Bool}{k1 k2:List (Int×List UInt8)}{o1 o2:Bool}(hk:Kw W w u w1 u1)(e1:ns.map Sc.key=k1){e:Ending}{w2:World}(h2:SecP W w0 w1 u1 (ss++ns) (bad || !o1) k2 o2 e w2):SecP W w0 w u ss bad (k1++k2) (o1&&o2) e w2:=by
 obtain⟨h0,u2,ns2,hw,hk2,hkw⟩:=h2
 refine⟨h0,u2,ns++ns2,?_,by rw[qd,e1,hk2],hk.trans hkw⟩
 rw[zt]at hw
 have e:(bad || !o1 || !o2)=(bad || !(o1&&o2)):=by cases bad<;>cases o1<;>cases o2<;>rfl
 rw[<-e]
 exact hw
theorem SecP.len{ns:List Sc}{k:List (Int×List UInt8)}(h:ns.map Sc.key=k):ns.length=k.length:=by rw[<-h,zd]
theorem declarations_any{W:Nat}{w0 w:World}{u:Value}{ss:List Sc}{bad:Bool}{m:Mo}(hm:m.ok w0 w0.heap.size)(hs:MoS m)(hN:Nam w0)(hT:U8T w0)(h:Ws W w0 w u ss bad)(hss:ss.length<=100):
  Calls prog 20 #[pW W,.agg #[.slice m.ty.A m.ty.l.length m.ty.c,.slice m.im.A m.im.l.length m.im.c,.slice m.fn.A m.fn.l.length m.fn.c,.slice m.ta.A m.ta.l.length m.ta.c,.slice m.me.A m.me.l.length m.me.c,.slice m.gl.A m.gl.l.length m.gl.c,.slice m.ex.A m.ex.l.length m.ex.c,.int .i64 m.st,.slice m.el.A m.el.l.length m.el.c,.slice m.da.A m.da.l.length m.da.c,.slice m.cu.A m.cu.l.length m.cu.c]] w (SecP W w0 w u ss bad ((Bin.opt 1 Bin.pFt (m.ty.l.map kTy))++((Bin.opt 2 Bin.pIm m.im.l)++((Bin.opt 3 Bin.pNum (m.fn.l.map Fn.ty))++((Bin.opt 4 Bin.pTab m.ta.l)++((Bin.opt 5 Bin.pLim m.me.l)++((Bin.opt 6 Bin.pGl (m.gl.l.map kGl))++((Bin.opt 7 Bin.pEx m.ex.l)))))))) ((Bin.pList Bin.pFt (m.ty.l.map kTy)).2&&((Bin.pList Bin.pIm m.im.l).2&&((Bin.pList Bin.pNum (m.fn.l.map Fn.ty)).2&&((Bin.pList Bin.pTab m.ta.l).2&&((Bin.pList Bin.pLim m.me.l).2&&((Bin.pList Bin.pGl (m.gl.l.map kGl)).2&&((Bin.pList Bin.pEx m.ex.l).2)))))))):=by
 have HC:=hid (And.intro hm (And.intro hs (And.intro hN hT)))
 have HW0:=hid ((h.alloc (.cells #[pW W] 66)).alloc (.cells #[.slice m.ty.A m.ty.l.length m.ty.c,.slice m.im.A m.im.l.length m.im.c,.slice m.fn.A m.fn.l.length m.fn.c,.slice m.ta.A m.ta.l.length m.ta.c,.slice m.me.A m.me.l.length m.me.c,.slice m.gl.A m.gl.l.length m.gl.c,.slice m.ex.A m.ex.l.length m.ex.c,.int .i64 m.st,.slice m.el.A m.el.l.length m.el.c,.slice m.da.A m.da.l.length m.da.c,.slice m.cu.A m.cu.l.length m.cu.c] 32))
 have HK0:Hid (Kw W w u ((w.alloc (.cells #[pW W] 66)).alloc (.cells #[.slice m.ty.A m.ty.l.length m.ty.c,.slice m.im.A m.im.l.length m.im.c,.slice m.fn.A m.fn.l.length m.fn.c,.slice m.ta.A m.ta.l.length m.ta.c,.slice m.me.A m.me.l.length m.me.c,.slice m.gl.A m.gl.l.length m.gl.c,.slice m.ex.A m.ex.l.length m.ex.c,.int .i64 m.st,.slice m.el.A m.el.l.length m.el.c,.slice m.da.A m.da.l.length m.da.c,.slice m.cu.A m.cu.l.length m.cu.c] 32)) u):=hid ((Kw.refl_.alloc _).alloc _)
 have hun:∀n,w.heap.size<=n->u.ownBlock≠some n:=λn hn e=>by have:=(h.ow.own_lt e).2;omega
 have hWl:=h.wr.lt
 have HB0:Hid (Bx W ((w.alloc (.cells #[pW W] 66)).alloc (.cells #[.slice m.ty.A m.ty.l.length m.ty.c,.slice m.im.A m.im.l.length m.im.c,.slice m.fn.A m.fn.l.length m.fn.c,.slice m.ta.A m.ta.l.length m.ta.c,.slice m.me.A m.me.l.length m.me.c,.slice m.gl.A m.gl.l.length m.gl.c,.slice m.ex.A m.ex.l.length m.ex.c,.int .i64 m.st,.slice m.el.A m.el.l.length m.el.c,.slice m.da.A m.da.l.length m.da.c,.slice m.cu.A m.cu.l.length m.cu.c] 32)) u w.heap.size [pW W]):=hid ⟨λi x hi=>by rw[zg _ _ _ (by simp),zv _ _ _ _ rfl];simpa using hi,by omega,hun _ (zq _),by simp;omega⟩
 have HX0:Hid (Bx W ((w.alloc (.cells #[pW W] 66)).alloc (.cells #[.slice m.ty.A m.ty.l.length m.ty.c,.slice m.im.A m.im.l.length m.im.c,.slice m.fn.A m.fn.l.length m.fn.c,.slice m.ta.A m.ta.l.length m.ta.c,.slice m.me.A m.me.l.length m.me.c,.slice m.gl.A m.gl.l.length m.gl.c,.slice m.ex.A m.ex.l.length m.ex.c,.int .i64 m.st,.slice m.el.A m.el.l.length m.el.c,.slice m.da.A m.da.l.length m.da.c,.slice m.cu.A m.cu.l.length m.cu.c] 32)) u (w.heap.size+1) [.slice m.ty.A m.ty.l.length m.ty.c,.slice m.im.A m.im.l.length m.im.c,.slice m.fn.A m.fn.l.length m.fn.c,.slice m.ta.A m.ta.l.length m.ta.c,.slice m.me.A m.me.l.length m.me.c,.slice m.gl.A m.gl.l.length m.gl.c,.slice m.ex.A m.ex.l.length m.ex.c,.int .i64 m.st,.slice m.el.A m.el.l.length m.el.c,.slice m.da.A m.da.l.length m.da.c,.slice m.cu.A m.cu.l.length m.cu.c]):=hid ⟨λi x hi=>by rw[zv _ _ _ _ (by simp)];simpa using hi,by omega,hun _ (by omega),by simp⟩
 obtain⟨k0,hk0⟩:∃k,(Bin.opt 1 Bin.pFt (m.ty.l.map kTy))=k:=⟨_,rfl⟩
 obtain⟨o0,ho0⟩:∃o,(Bin.pList Bin.pFt (m.ty.l.map kTy)).2=o:=⟨_,rfl⟩
 obtain⟨k1,hk1⟩:∃k,(Bin.opt 2 Bin.pIm m.im.l)=k:=⟨_,rfl⟩
 obtain⟨o1,ho1⟩:∃o,(Bin.pList Bin.pIm m.im.l).2=o:=⟨_,rfl⟩
 obtain⟨k2,hk2⟩:∃k,(Bin.opt 3 Bin.pNum (m.fn.l.map Fn.ty))=k:=⟨_,rfl⟩
 obtain⟨o2,ho2⟩:∃o,(Bin.pList Bin.pNum (m.fn.l.map Fn.ty)).2=o:=⟨_,rfl⟩
 obtain⟨k3,hk3⟩:∃k,(Bin.opt 4 Bin.pTab m.ta.l)=k:=⟨_,rfl⟩
 obtain⟨o3,ho3⟩:∃o,(Bin.pList Bin.pTab m.ta.l).2=o:=⟨_,rfl⟩
 obtain⟨k4,hk4⟩:∃k,(Bin.opt 5 Bin.pLim m.me.l)=k:=⟨_,rfl⟩
 obtain⟨o4,ho4⟩:∃o,(Bin.pList Bin.pLim m.me.l).2=o:=⟨_,rfl⟩
 obtain⟨k5,hk5⟩:∃k,(Bin.opt 6 Bin.pGl (m.gl.l.map kGl))=k:=⟨_,rfl⟩
 obtain⟨o5,ho5⟩:∃o,(Bin.pList Bin.pGl (m.gl.l.map kGl)).2=o:=⟨_,rfl⟩
 obtain⟨k6,hk6⟩:∃k,(Bin.opt 7 Bin.pEx m.ex.l)=k:=⟨_,rfl⟩
 obtain⟨o6,ho6⟩:∃o,(Bin.pList Bin.pEx m.ex.l).2=o:=⟨_,rfl⟩
 rw[hk0,ho0,hk1,ho1,hk2,ho2,hk3,ho3,hk4,ho4,hk5,ho5,hk6,ho6]
 have HS0:=hid (λ(w':World) (u':Value) (ss':List Sc) (bad':Bool) (h':Ws W w0 w' u' ss' bad') (hss':ss'.length<=1000) (hB':Bx W w' u' w.heap.size [pW W])=>by have:=secTy_any HC.out.1 HC.out.2.1 HC.out.2.2.1 HC.out.2.2.2 h' hss' hB';rw[hk0,ho0]at this;exact this)
 have hl0:k0.length<=1:=by rw[<-hk0];exact(Bin.opt_ids ..).2
 have HS1:=hid (λ(w':World) (u':Value) (ss':List Sc) (bad':Bool) (h':Ws W w0 w' u' ss' bad') (hss':ss'.length<=1000) (hB':Bx W w' u' w.heap.size [pW W])=>by have:=secIm_any HC.out.1 HC.out.2.1 HC.out.2.2.1 HC.out.2.2.2 h' hss' hB';rw[hk1,ho1]at this;exact this)
 have hl1:k1.length<=1:=by rw[<-hk1];exact(Bin.opt_ids ..).2
 have HS2:=hid (λ(w':World) (u':Value) (ss':List Sc) (bad':Bool) (h':Ws W w0 w' u' ss' bad') (hss':ss'.length<=1000) (hB':Bx W w' u' w.heap.size [pW W])=>by have:=secFt_any HC.out.1 HC.out.2.1 HC.out.2.2.1 HC.out.2.2.2 h' hss' hB';rw[hk2,ho2]at this;exact this)
 have hl2:k2.length<=1:=by rw[<-hk2];exact(Bin.opt_ids ..).2
 have HS3:=hid (λ(w':World) (u':Value) (ss':List Sc) (bad':Bool) (h':Ws W w0 w' u' ss' bad') (hss':ss'.length<=1000) (hB':Bx W w' u' w.heap.size [pW W])=>by have:=secTa_any HC.out.1 HC.out.2.1 HC.out.2.2.1 HC.out.2.2.2 h' hss' hB';rw[hk3,ho3]at this;exact this)
 have hl3:k3.length<=1:=by rw[<-hk3];exact(Bin.opt_ids ..).2
 have HS4:=hid (λ(w':World) (u':Value) (ss':List Sc) (bad':Bool) (h':Ws W w0 w' u' ss' bad') (hss':ss'.length<=1000) (hB':Bx W w' u' w.heap.size [pW W])=>by have:=secMe_any HC.out.1 HC.out.2.1 HC.out.2.2.1 HC.out.2.2.2 h' hss' hB';rw[hk4,ho4]at this;exact this)
 have hl4:k4.length<=1:=by rw[<-hk4];exact(Bin.opt_ids ..).2
 have HS5:=hid (λ(w':World) (u':Value) (ss':List Sc) (bad':Bool) (h':Ws W w0 w' u' ss' bad') (hss':ss'.length<=1000) (hB':Bx W w' u' w.heap.size [pW W])=>by have:=secGl_any HC.out.1 HC.out.2.1 HC.out.2.2.1 HC.out.2.2.2 h' hss' hB';rw[hk5,ho5]at this;exact this)
 have hl5:k5.length<=1:=by rw[<-hk5];exact(Bin.opt_ids ..).2
 have HS6:=hid (λ(w':World) (u':Value) (ss':List Sc) (bad':Bool) (h':Ws W w0 w' u' ss' bad') (hss':ss'.length<=1000) (hB':Bx W w' u' w.heap.size [pW W])=>by have:=secEx_any HC.out.1 HC.out.2.1 HC.out.2.2.1 HC.out.2.2.2 h' hss' hB';rw[hk6,ho6]at this;exact this)
 have hl6:k6.length<=1:=by rw[<-hk6];exact(Bin.opt_ids ..).2
 clear h hm hs hN hT hun hk0 ho0 hk1 ho1 hk2 ho2 hk3 ho3 hk4 ho4 hk5 ho5 hk6 ho6
 refine postL λP hP=>?_
 have HP:=hid hP
 clear hP
 go_enter func20,ntmps20
 go_wp2_with(first
  |(go_at_call 74;(with_reducible refine(HS0.out _ _ _ _ HW0.out (by have hz:=hss;(try simp only[zz]);omega) HB0.out).mono ?_);unfold SecP;rintro e w1 ⟨rfl,u1,ns1,hw1,hy1,hk1⟩;have HW1:=hid hw1;have HK1:=hid hk1;have HY1:=hid hy1;have HB1:=hid (HB0.out.kw hk1);have HX1:=hid (HX0.out.kw hk1);have b1:=HB1.out.cell 0 _ rfl;have x1_0:=HX1.out.cell 0 _ rfl;have x1_1:=HX1.out.cell 1 _ rfl;have x1_2:=HX1.out.cell 2 _ rfl;have x1_3:=HX1.out.cell 3 _ rfl;have x1_4:=HX1.out.cell 4 _ rfl;have x1_5:=HX1.out.cell 5 _ rfl;have x1_6:=HX1.out.cell 6 _ rfl;clear hw1 hk1 hy1)
  |(go_at_call 78;(with_reducible refine(HS1.out _ _ _ _ HW1.out (by have hz:=hss;have z0:=SecP.len HY1.out;(try simp only[zz]);omega) HB1.out).mono ?_);unfold SecP;rintro e w2 ⟨rfl,u2,ns2,hw2,hy2,hk2⟩;have HW2:=hid hw2;have HK2:=hid hk2;have HY2:=hid hy2;have HB2:=hid (HB1.out.kw hk2);have HX2:=hid (HX1.out.kw hk2);have b2:=HB2.out.cell 0 _ rfl;have x2_0:=HX2.out.cell 0 _ rfl;have x2_1:=HX2.out.cell 1 _ rfl;have x2_2:=HX2.out.cell 2 _ rfl;have x2_3:=HX2.out.cell 3 _ rfl;have x2_4:=HX2.out.cell 4 _ rfl;have x2_5:=HX2.out.cell 5 _ rfl;have x2_6:=HX2.out.cell 6 _ rfl;clear hw2 hk2 hy2)
  |(go_at_call 82;(with_reducible refine(HS2.out _ _ _ _ HW2.out (by have hz:=hss;have z0:=SecP.len HY1.out;have z1:=SecP.len HY2.out;(try simp only[zz]);omega) HB2.out).mono ?_);unfold SecP;rintro e w3 ⟨rfl,u3,ns3,hw3,hy3,hk3⟩;have HW3:=hid hw3;have HK3:=hid hk3;have HY3:=hid hy3;have HB3:=hid (HB2.out.kw hk3);have HX3:=hid (HX2.out.kw hk3);have b3:=HB3.out.cell 0 _ rfl;have x3_0:=HX3.out.cell 0 _ rfl;have x3_1:=HX3.out.cell 1 _ rfl;have x3_2:=HX3.out.cell 2 _ rfl;have x3_3:=HX3.out.cell 3 _ rfl;have x3_4:=HX3.out.cell 4 _ rfl;have x3_5:=HX3.out.cell 5 _ rfl;have x3_6:=HX3.out.cell 6 _ rfl;clear hw3 hk3 hy3)
  |(go_at_call 85;(with_reducible refine(HS3.out _ _ _ _ HW3.out (by have hz:=hss;have z0:=SecP.len HY1.out;have z1:=SecP.len HY2.out;have z2:=SecP.len HY3.out;(try simp only[zz]);omega) HB3.out).mono ?_);unfold SecP;rintro e w4 ⟨rfl,u4,ns4,hw4,hy4,hk4⟩;have HW4:=hid hw4;have HK4:=hid hk4;have HY4:=hid hy4;have HB4:=hid (HB3.out.kw hk4);have HX4:=hid (HX3.out.kw hk4);have b4:=HB4.out.cell 0 _ rfl;have x4_0:=HX4.out.cell 0 _ rfl;have x4_1:=HX4.out.cell 1 _ rfl;have x4_2:=HX4.out.cell 2 _ rfl;have x4_3:=HX4.out.cell 3 _ rfl;have x4_4:=HX4.out.cell 4 _ rfl;have x4_5:=HX4.out.cell 5 _ rfl;have x4_6:=HX4.out.cell 6 _ rfl;clear hw4 hk4 hy4)
  |(go_at_call 85;(with_reducible refine(HS4.out _ _ _ _ HW4.out (by have hz:=hss;have z0:=SecP.len HY1.out;have z1:=SecP.len HY2.out;have z2:=SecP.len HY3.out;have z3:=SecP.len HY4.out;(try simp only[zz]);omega) HB4.out).mono ?_);unfold SecP;rintro e w5 ⟨rfl,u5,ns5,hw5,hy5,hk5⟩;have HW5:=hid hw5;have HK5:=hid hk5;have HY5:=hid hy5;have HB5:=hid (HB4.out.kw hk5);have HX5:=hid (HX4.out.kw hk5);have b5:=HB5.out.cell 0 _ rfl;have x5_0:=HX5.out.cell 0 _ rfl;have x5_1:=HX5.out.cell 1 _ rfl;have x5_2:=HX5.out.cell 2 _ rfl;have x5_3:=HX5.out.cell 3 _ rfl;have x5_4:=HX5.out.cell 4 _ rfl;have x5_5:=HX5.out.cell 5 _ rfl;have x5_6:=HX5.out.cell 6 _ rfl;clear hw5 hk5 hy5)
  |(go_at_call 90;(with_reducible refine(HS5.out _ _ _ _ HW5.out (by have hz:=hss;have z0:=SecP.len HY1.out;have z1:=SecP.len HY2.out;have z2:=SecP.len HY3.out;have z3:=SecP.len HY4.out;have z4:=SecP.len HY5.out;(try simp only[zz]);omega) HB5.out).mono ?_);unfold SecP;rintro e w6 ⟨rfl,u6,ns6,hw6,hy6,hk6⟩;have HW6:=hid hw6;have HK6:=hid hk6;have HY6:=hid hy6;have HB6:=hid (HB5.out.kw hk6);have HX6:=hid (HX5.out.kw hk6);have b6:=HB6.out.cell 0 _ rfl;have x6_0:=HX6.out.cell 0 _ rfl;have x6_1:=HX6.out.cell 1 _ rfl;have x6_2:=HX6.out.cell 2 _ rfl;have x6_3:=HX6.out.cell 3 _ rfl;have x6_4:=HX6.out.cell 4 _ rfl;have x6_5:=HX6.out.cell 5 _ rfl;have x6_6:=HX6.out.cell 6 _ rfl;clear hw6 hk6 hy6)
  |(go_at_call 95;(with_reducible refine(HS6.out _ _ _ _ HW6.out (by have hz:=hss;have z0:=SecP.len HY1.out;have z1:=SecP.len HY2.out;have z2:=SecP.len HY3.out;have z3:=SecP.len HY4.out;have z4:=SecP.len HY5.out;have z5:=SecP.len HY6.out;(try simp only[zz]);omega) HB6.out).mono ?_);unfold SecP;rintro e w7 ⟨rfl,u7,ns7,hw7,hy7,hk7⟩;have HW7:=hid hw7;have HK7:=hid hk7;have HY7:=hid hy7;have HB7:=hid (HB6.out.kw hk7);have HX7:=hid (HX6.out.kw hk7);have b7:=HB7.out.cell 0 _ rfl;have x7_0:=HX7.out.cell 0 _ rfl;have x7_1:=HX7.out.cell 1 _ rfl;have x7_2:=HX7.out.cell 2 _ rfl;have x7_3:=HX7.out.cell 3 _ rfl;have x7_4:=HX7.out.cell 4 _ rfl;have x7_5:=HX7.out.cell 5 _ rfl;have x7_6:=HX7.out.cell 6 _ rfl;clear hw7 hk7 hy7))
 go_end0
 rw[<-HP.out]
 exact SecP.next (HK0.out.trans HK1.out) HY1.out (SecP.next HK2.out HY2.out (SecP.next HK3.out HY3.out (SecP.next HK4.out HY4.out (SecP.next HK5.out HY5.out (SecP.next HK6.out HY6.out (⟨rfl,u7,ns7,HW7.out,HY7.out,HK7.out⟩))))))
theorem contents_any{W:Nat}{w0 w:World}{u:Value}{ss:List Sc}{bad:Bool}{m:Mo}(hm:m.ok w0 w0.heap.size)(hs:MoS m)(hN:Nam w0)(hT:U8T w0)(h:Ws W w0 w u ss bad)(hss:ss.length<=100):
  Calls prog 21 #[pW W,.agg #[.slice m.ty.A m.ty.l.length m.ty.c,.slice m.im.A m.im.l.length m.im.c,.slice m.fn.A m.fn.l.length m.fn.c,.slice m.ta.A m.ta.l.length m.ta.c,.slice m.me.A m.me.l.length m.me.c,.slice m.gl.A m.gl.l.length m.gl.c,.slice m.ex.A m.ex.l.length m.ex.c,.int .i64 m.st,.slice m.el.A m.el.l.length m.el.c,.slice m.da.A m.da.l.length m.da.c,.slice m.cu.A m.cu.l.length m.cu.c]] w (SecP W w0 w u ss bad (Bin.optS m.st++((Bin.opt 9 Bin.pEl (m.el.l.map kEl))++((Bin.opt 10 Bin.pFn (m.fn.l.map (λx:Fn=>(kFn x).2)))++((Bin.opt 11 Bin.pDa (m.da.l.map kDa))++(m.cu.l.map λx=>((0:Int),(Bin.pCu (kCu x)).1)))))) ((decide (m.st= -1) || num32 m.st)&&((Bin.pList Bin.pEl (m.el.l.map kEl)).2&&((Bin.pList Bin.pFn (m.fn.l.map (λx:Fn=>(kFn x).2))).2&&((Bin.pList Bin.pDa (m.da.l.map kDa)).2&&(m.cu.l.all λx=>(Bin.pCu (kCu x)).2)))))):=by
 have HC:=hid (And.intro hm (And.intro hs (And.intro hN hT)))
 have hst:=hm.st
 have hcuL:=hs.cu
 have HW0:=hid ((h.alloc (.cells #[pW W] 66)).alloc (.cells #[.slice m.ty.A m.ty.l.length m.ty.c,.slice m.im.A m.im.l.length m.im.c,.slice m.fn.A m.fn.l.length m.fn.c,.slice m.ta.A m.ta.l.length m.ta.c,.slice m.me.A m.me.l.length m.me.c,.slice m.gl.A m.gl.l.length m.gl.c,.slice m.ex.A m.ex.l.length m.ex.c,.int .i64 m.st,.slice m.el.A m.el.l.length m.el.c,.slice m.da.A m.da.l.length m.da.c,.slice m.cu.A m.cu.l.length m.cu.c] 32))
 have HK0:Hid (Kw W w u ((w.alloc (.cells #[pW W] 66)).alloc (.cells #[.slice m.ty.A m.ty.l.length m.ty.c,.slice m.im.A m.im.l.length m.im.c,.slice m.fn.A m.fn.l.length m.fn.c,.slice m.ta.A m.ta.l.length m.ta.c,.slice m.me.A m.me.l.length m.me.c,.slice m.gl.A m.gl.l.length m.gl.c,.slice m.ex.A m.ex.l.length m.ex.c,.int .i64 m.st,.slice m.el.A m.el.l.length m.el.c,.slice m.da.A m.da.l.length m.da.c,.slice m.cu.A m.cu.l.length m.cu.c] 32)) u):=hid ((Kw.refl_.alloc _).alloc _)
 have hun:∀n,w.heap.size<=n->u.ownBlock≠some n:=λn hn e=>by have:=(h.ow.own_lt e).2;omega
 have hWl:=h.wr.lt
 have HB0:Hid (Bx W ((w.alloc (.cells #[pW W] 66)).alloc (.cells #[.slice m.ty.A m.ty.l.length m.ty.c,.slice m.im.A m.im.l.length m.im.c,.slice m.fn.A m.fn.l.length m.fn.c,.slice m.ta.A m.ta.l.length m.ta.c,.slice m.me.A m.me.l.length m.me.c,.slice m.gl.A m.gl.l.length m.gl.c,.slice m.ex.A m.ex.l.length m.ex.c,.int .i64 m.st,.slice m.el.A m.el.l.length m.el.c,.slice m.da.A m.da.l.length m.da.c,.slice m.cu.A m.cu.l.length m.cu.c] 32)) u w.heap.size [pW W]):=hid ⟨λi x hi=>by rw[zg _ _ _ (by simp),zv _ _ _ _ rfl];simpa using hi,by omega,hun _ (zq _),by simp;omega⟩
 have HX0:Hid (Bx W ((w.alloc (.cells #[pW W] 66)).alloc (.cells #[.slice m.ty.A m.ty.l.length m.ty.c,.slice m.im.A m.im.l.length m.im.c,.slice m.fn.A m.fn.l.length m.fn.c,.slice m.ta.A m.ta.l.length m.ta.c,.slice m.me.A m.me.l.length m.me.c,.slice m.gl.A m.gl.l.length m.gl.c,.slice m.ex.A m.ex.l.length m.ex.c,.int .i64 m.st,.slice m.el.A m.el.l.length m.el.c,.slice m.da.A m.da.l.length m.da.c,.slice m.cu.A m.cu.l.length m.cu.c] 32)) u (w.heap.size+1) [.slice m.ty.A m.ty.l.length m.ty.c,.slice m.im.A m.im.l.length m.im.c,.slice m.fn.A m.fn.l.length m.fn.c,.slice m.ta.A m.ta.l.length m.ta.c,.slice m.me.A m.me.l.length m.me.c,.slice m.gl.A m.gl.l.length m.gl.c,.slice m.ex.A m.ex.l.length m.ex.c,.int .i64 m.st,.slice m.el.A m.el.l.length m.el.c,.slice m.da.A m.da.l.length m.da.c,.slice m.cu.A m.cu.l.length m.cu.c]):=hid ⟨λi x hi=>by rw[zv _ _ _ _ (by simp)];simpa using hi,by omega,hun _ (by omega),by simp⟩
 obtain⟨k1,hk1⟩:∃k,(Bin.opt 9 Bin.pEl (m.el.l.map kEl))=k:=⟨_,rfl⟩
 obtain⟨o1,ho1⟩:∃o,(Bin.pList Bin.pEl (m.el.l.map kEl)).2=o:=⟨_,rfl⟩
 obtain⟨k2,hk2⟩:∃k,(Bin.opt 10 Bin.pFn (m.fn.l.map (λx:Fn=>(kFn x).2)))=k:=⟨_,rfl⟩
 obtain⟨o2,ho2⟩:∃o,(Bin.pList Bin.pFn (m.fn.l.map (λx:Fn=>(kFn x).2))).2=o:=⟨_,rfl⟩
 obtain⟨k3,hk3⟩:∃k,(Bin.opt 11 Bin.pDa (m.da.l.map kDa))=k:=⟨_,rfl⟩
 obtain⟨o3,ho3⟩:∃o,(Bin.pList Bin.pDa (m.da.l.map kDa)).2=o:=⟨_,rfl⟩
 rw[hk1,ho1,hk2,ho2,hk3,ho3]
 have HS1:=hid (λ(w':World) (u':Value) (ss':List Sc) (bad':Bool) (h':Ws W w0 w' u' ss' bad') (hss':ss'.length<=1000) (hB':Bx W w' u' w.heap.size [pW W])=>by have:=secEl_any HC.out.1 HC.out.2.1 HC.out.2.2.1 HC.out.2.2.2 h' hss' hB';rw[hk1,ho1]at this;exact this)
 have hl1:k1.length<=1:=by rw[<-hk1];exact(Bin.opt_ids ..).2
 have HS2:=hid (λ(w':World) (u':Value) (ss':List Sc) (bad':Bool) (h':Ws W w0 w' u' ss' bad') (hss':ss'.length<=1000) (hB':Bx W w' u' w.heap.size [pW W])=>by have:=secCo_any HC.out.1 HC.out.2.1 HC.out.2.2.1 HC.out.2.2.2 h' hss' hB';rw[hk2,ho2]at this;exact this)
 have hl2:k2.length<=1:=by rw[<-hk2];exact(Bin.opt_ids ..).2
 have HS3:=hid (λ(w':World) (u':Value) (ss':List Sc) (bad':Bool) (h':Ws W w0 w' u' ss' bad') (hss':ss'.length<=1000) (hB':Bx W w' u' w.heap.size [pW W])=>by have:=secDa_any HC.out.1 HC.out.2.1 HC.out.2.2.1 HC.out.2.2.2 h' hss' hB';rw[hk3,ho3]at this;exact this)
 have hl3:k3.length<=1:=by rw[<-hk3];exact(Bin.opt_ids ..).2
 have HSt:=hid (section_any 99 (λ_ _=>rfl) #[.pointer (some ⟨w.heap.size,0,none⟩),.pointer (some ⟨w.heap.size+1,0,none⟩)] (Bin.pNum m.st) 8 (by unfold inI;omega) HW0.out (by omega) (λw' hw hk'=>start_any m.st hst hw
  ((zm (hk'.keep _ HB0.out.lt HB0.out.ne (by simp[Value.ownBlock])).1).trans (HB0.out.cell 0 _ rfl)) ((zm (hk'.keep _ HX0.out.lt HX0.out.ne (by simp[Value.ownBlock])).1).trans (HX0.out.cell 7 _ rfl)) (by have h10:(Bin.pNum m.st).1.length<=10:=eN_len m.st;simp;omega)))
 clear h hm hs hN hT hun hk1 ho1 hk2 ho2 hk3 ho3
 obtain⟨k0,hk0⟩:∃k,Bin.optS m.st=k:=⟨_,rfl⟩
 obtain⟨o0,ho0⟩:∃o,(decide (m.st= -1) || num32 m.st)=o:=⟨_,rfl⟩
 rw[hk0,ho0]
 refine postL λP hP=>?_
 have HP:=hid hP
 clear hP
 by_cases h1:m.st= -1
 ·
  have hk0':k0=[]:=by rw[<-hk0];unfold Bin.optS;rw[if_pos h1]
  have ho0':o0=true:=by rw[<-ho0,decide_eq_true h1];rfl
  have h1n:(m.st== -1)=true:=by simpa using h1
  subst hk0' ho0'
  clear hk0 ho0 HSt h1
  go_enter func21,ntmps21
  go_wp2_with(first
   |(go_at_call 100;(with_reducible refine(HS1.out _ _ _ _ HW0.out (by have hz:=hss;(try simp only[zz]);omega) HB0.out).mono ?_);unfold SecP;rintro e w1 ⟨rfl,u1,ns1,hw1,hy1,hk1⟩;have HW1:=hid hw1;have HK1:=hid hk1;have HY1:=hid hy1;have HB1:=hid (HB0.out.kw hk1);have HX1:=hid (HX0.out.kw hk1);have b1:=HB1.out.cell 0 _ rfl;have x1_2:=HX1.out.cell 2 _ rfl;have x1_8:=HX1.out.cell 8 _ rfl;have x1_9:=HX1.out.cell 9 _ rfl;have x1_10:=HX1.out.cell 10 _ rfl;clear hw1 hk1 hy1)
   |(go_at_call 82;(with_reducible refine(HS2.out _ _ _ _ HW1.out (by have hz:=hss;have z1:=SecP.len HY1.out;(try simp only[zz]);omega) HB1.out).mono ?_);unfold SecP;rintro e w2 ⟨rfl,u2,ns2,hw2,hy2,hk2⟩;have HW2:=hid hw2;have HK2:=hid hk2;have HY2:=hid hy2;have HB2:=hid (HB1.out.kw hk2);have HX2:=hid (HX1.out.kw hk2);have b2:=HB2.out.cell 0 _ rfl;have x2_2:=HX2.out.cell 2 _ rfl;have x2_8:=HX2.out.cell 8 _ rfl;have x2_9:=HX2.out.cell 9 _ rfl;have x2_10:=HX2.out.cell 10 _ rfl;clear hw2 hk2 hy2)
   |(go_at_call 109;(with_reducible refine(HS3.out _ _ _ _ HW2.out (by have hz:=hss;have z1:=SecP.len HY1.out;have z2:=SecP.len HY2.out;(try simp only[zz]);omega) HB2.out).mono ?_);unfold SecP;rintro e w3 ⟨rfl,u3,ns3,hw3,hy3,hk3⟩;have HW3:=hid hw3;have HK3:=hid hk3;have HY3:=hid hy3;have HB3:=hid (HB2.out.kw hk3);have HX3:=hid (HX2.out.kw hk3);have b3:=HB3.out.cell 0 _ rfl;have x3_2:=HX3.out.cell 2 _ rfl;have x3_8:=HX3.out.cell 8 _ rfl;have x3_9:=HX3.out.cell 9 _ rfl;have x3_10:=HX3.out.cell 10 _ rfl;clear hw3 hk3 hy3))
  have hsl:(((ss++ns1)++ns2)++ns3).length<=200:=by
   have hz:=hss
   have z1:=SecP.len HY1.out
   have z2:=SecP.len HY2.out
   have z3:=SecP.len HY3.out
   simp only[zz]
   omega
  go_loopw [30] (λi wr=>∃(j:Nat) (u':Value) (ns:List Sc),i=.int .i64 j/\j<=m.cu.l.length/\Hid (Ws W w0 wr u' ((((ss++ns1)++ns2)++ns3)++ns) ((((bad || !o1) || !o2) || !o3) || !((m.cu.l.take j).all λx=>(Bin.pCu (kCu x)).2)))/\Hid (ns.map Sc.key=(m.cu.l.take j).map λx=>((0:Int),(Bin.pCu (kCu x)).1))/\Hid (Kw W w3 u3 wr u')) (λi _=>m.cu.l.length-(intOf i).toNat)
  case atStart=>exact⟨0,u3,[],rfl,by omega,hid (by simpa using HW3.out),hid (by simp),hid Kw.refl_⟩
  case round=>
   obtain⟨j,u4,ns4,rfl,hj,HW4,HY4,HK4⟩:=hrel
   have HB4:=hid (HB3.out.kw HK4.out)
   by_cases hlt:j<m.cu.l.length
   ·
    obtain⟨x,hx⟩:∃x,m.cu.l[j]? =some x:=⟨m.cu.l[j],zb hlt⟩
    have hxm:=zu hx
    obtain⟨b,o,hA,hb,hcell⟩:=((HW4.out.wr.lst HC.out.1.cu.rows).now).at_ (i:=j) (r:=Cu.cells x) (by rw[zr,hx];rfl)
    rw[hA]
    have q0:wr.cell? ⟨b,o+j * 2,none⟩=some (.string x.nm):=hcell 0 (by omega)
    have q1:wr.cell? ⟨b,o+j * 2+1,none⟩=some (.slice x.bs.A x.bs.bs.length x.bs.c):=hcell 1 (by omega)
    have b4:=HB4.out.cell 0 _ rfl
    have bl4:=HB4.out.lt
    have z4:=SecP.len HY4.out
    rw[zd,qh]at z4
    have HSe:=hid (section_any 111 (λ_ _=>rfl) #[.pointer (some ⟨w.heap.size,0,none⟩),.pointer (some ⟨wr.heap.size,0,none⟩)] (Bin.pCu (kCu x)) 0 (by unfold inI;omega) (HW4.out.alloc (.cells #[.string x.nm,.slice x.bs.A x.bs.bs.length x.bs.c] 48)) (by have:=hsl;simp only[zz]at this⊢;omega) (λw' hw hk'=>by
     have y1:=HB4.out.alloc (.cells #[.string x.nm,.slice x.bs.A x.bs.bs.length x.bs.c] 48)
     have y2:=Bx.new (vals:=[.string x.nm,.slice x.bs.A x.bs.bs.length x.bs.c]) HW4.out.wr #[.string x.nm,.slice x.bs.A x.bs.bs.length x.bs.c] 48 _ rfl rfl
     refine custom_any x (HC.out.1.cu.all x hxm) HC.out.2.2.2 hw ⟨λi z hi=>(zm (hk'.keep _ y1.lt y1.ne (by simp[Value.ownBlock])).1).trans (y1.cell i z hi),y1.ne,by simp[Value.ownBlock],zj y1.lt hk'.size⟩ ⟨λi z hi=>(zm (hk'.keep _ y2.lt y2.ne (by simp[Value.ownBlock])).1).trans (y2.cell i z hi),y2.ne,by simp[Value.ownBlock],zj y2.lt hk'.size⟩ (by have:=HC.out.2.1.cuL x hxm;simpa using this)))
    have HXx:=hid hx
    clear hcell hx hA hxm z4
    go_wp2_with(go_at_call 98;(with_reducible refine HSe.out.mono ?_);unfold SecP;rintro e w5 ⟨rfl,u5,ns5,hw5,hy5,hk5⟩;have HW5:=hid hw5;have HY5:=hid hy5;have HK5:=hid hk5;clear hw5 hy5 hk5)
    go_roundw
    case rel=>
     have hjx:=(List.getElem?_eq_some_iff.1 HXx.out).2
     refine⟨j+1,u5,ns4++ns5,by go_num,by omega,hid ?_,hid ?_,hid ((HK4.out.alloc _).trans HK5.out)⟩
     ·
      have h5:=HW5.out
      rw[zt]at h5
      rw[ql hlt,List.all_append,hjx]
      have e:∀(a b c:Bool),((a || !b) || !c)=(a || !(b&&c)):=by decide
      rw[e]at h5
      simpa using h5
     ·rw[qd,HY4.out,HY5.out,ql hlt,qd,hjx];rfl
    case measure=>simp[intOf];omega
   ·
    have hT4:m.cu.l.take j=m.cu.l:=zo (by omega)
    rw[hT4]at HW4 HY4
    go_wp2_with fail
    go_end0
    rw[<-HP.out]
    have hf:SecP W w0 w3 u3 (((ss++ns1)++ns2)++ns3) (((bad || !o1) || !o2) || !o3) (m.cu.l.map λx=>((0:Int),(Bin.pCu (kCu x)).1)) (m.cu.l.all λx=>(Bin.pCu (kCu x)).2) (.returned (.tuple #[])) wr:=⟨rfl,u4,ns4,HW4.out,HY4.out,HK4.out⟩
    have hg:=(SecP.next (HK0.out.trans HK1.out) HY1.out (SecP.next HK2.out HY2.out (SecP.next HK3.out HY3.out hf)))
    simpa using hg
 ·
  have hk0':k0=[(8,(Bin.pNum m.st).1)]:=by rw[<-hk0];unfold Bin.optS;rw[if_neg h1]
  have ho0':o0=(Bin.pNum m.st).2:=by rw[<-ho0,decide_eq_false h1];rfl
  have h1n:(m.st== -1)=false:=by simpa using h1
  rw[<-hk0',<-ho0']at HSt
  have hl0:k0.length=1:=by rw[hk0'];rfl
  clear hk0 ho0 hk0' ho0' h1
  go_enter func21,ntmps21
  go_wp2_with(first
   |(go_at_call 98;(with_reducible refine HSt.out.mono ?_);unfold SecP;rintro e w9 ⟨rfl,u9,ns9,hw9,hy9,hk9⟩;have HW9:=hid hw9;have HK9:=hid hk9;have HY9:=hid hy9;have HB9:=hid (HB0.out.kw hk9);have HX9:=hid (HX0.out.kw hk9);have b9:=HB9.out.cell 0 _ rfl;have x9_2:=HX9.out.cell 2 _ rfl;have x9_8:=HX9.out.cell 8 _ rfl;have x9_9:=HX9.out.cell 9 _ rfl;have x9_10:=HX9.out.cell 10 _ rfl;clear hw9 hk9 hy9)
   |(go_at_call 100;(with_reducible refine(HS1.out _ _ _ _ HW9.out (by have hz:=hss;have z9:=SecP.len HY9.out;(try simp only[zz]);omega) HB9.out).mono ?_);unfold SecP;rintro e w1 ⟨rfl,u1,ns1,hw1,hy1,hk1⟩;have HW1:=hid hw1;have HK1:=hid hk1;have HY1:=hid hy1;have HB1:=hid (HB9.out.kw hk1);have HX1:=hid (HX9.out.kw hk1);have b1:=HB1.out.cell 0 _ rfl;have x1_2:=HX1.out.cell 2 _ rfl;have x1_8:=HX1.out.cell 8 _ rfl;have x1_9:=HX1.out.cell 9 _ rfl;have x1_10:=HX1.out.cell 10 _ rfl;clear hw1 hk1 hy1)
   |(go_at_call 82;(with_reducible refine(HS2.out _ _ _ _ HW1.out (by have hz:=hss;have z1:=SecP.len HY1.out;have z9:=SecP.len HY9.out;(try simp only[zz]);omega) HB1.out).mono ?_);unfold SecP;rintro e w2 ⟨rfl,u2,ns2,hw2,hy2,hk2⟩;have HW2:=hid hw2;have HK2:=hid hk2;have HY2:=hid hy2;have HB2:=hid (HB1.out.kw hk2);have HX2:=hid (HX1.out.kw hk2);have b2:=HB2.out.cell 0 _ rfl;have x2_2:=HX2.out.cell 2 _ rfl;have x2_8:=HX2.out.cell 8 _ rfl;have x2_9:=HX2.out.cell 9 _ rfl;have x2_10:=HX2.out.cell 10 _ rfl;clear hw2 hk2 hy2)
   |(go_at_call 109;(with_reducible refine(HS3.out _ _ _ _ HW2.out (by have hz:=hss;have z1:=SecP.len HY1.out;have z2:=SecP.len HY2.out;have z9:=SecP.len HY9.out;(try simp only[zz]);omega) HB2.out).mono ?_);unfold SecP;rintro e w3 ⟨rfl,u3,ns3,hw3,hy3,hk3⟩;have HW3:=hid hw3;have HK3:=hid hk3;have HY3:=hid hy3;have HB3:=hid (HB2.out.kw hk3);have HX3:=hid (HX2.out.kw hk3);have b3:=HB3.out.cell 0 _ rfl;have x3_2:=HX3.out.cell 2 _ rfl;have x3_8:=HX3.out.cell 8 _ rfl;have x3_9:=HX3.out.cell 9 _ rfl;have x3_10:=HX3.out.cell 10 _ rfl;clear hw3 hk3 hy3))
  have hsl:((((ss++ns9)++ns1)++ns2)++ns3).length<=200:=by
   have hz:=hss
   have z1:=SecP.len HY1.out
   have z2:=SecP.len HY2.out
   have z3:=SecP.len HY3.out
   have z9:=SecP.len HY9.out
   simp only[zz]
   omega
  go_loopw [30] (λi wr=>∃(j:Nat) (u':Value) (ns:List Sc),i=.int .i64 j/\j<=m.cu.l.length/\Hid (Ws W w0 wr u' (((((ss++ns9)++ns1)++ns2)++ns3)++ns) (((((bad || !o0) || !o1) || !o2) || !o3) || !((m.cu.l.take j).all λx=>(Bin.pCu (kCu x)).2)))/\Hid (ns.map Sc.key=(m.cu.l.take j).map λx=>((0:Int),(Bin.pCu (kCu x)).1))/\Hid (Kw W w3 u3 wr u')) (λi _=>m.cu.l.length-(intOf i).toNat)
  case atStart=>exact⟨0,u3,[],rfl,by omega,hid (by simpa using HW3.out),hid (by simp),hid Kw.refl_⟩
  case round=>
   obtain⟨j,u4,ns4,rfl,hj,HW4,HY4,HK4⟩:=hrel
   have HB4:=hid (HB3.out.kw HK4.out)
   by_cases hlt:j<m.cu.l.length
   ·
    obtain⟨x,hx⟩:∃x,m.cu.l[j]? =some x:=⟨m.cu.l[j],zb hlt⟩
    have hxm:=zu hx
    obtain⟨b,o,hA,hb,hcell⟩:=((HW4.out.wr.lst HC.out.1.cu.rows).now).at_ (i:=j) (r:=Cu.cells x) (by rw[zr,hx];rfl)
    rw[hA]
    have q0:wr.cell? ⟨b,o+j * 2,none⟩=some (.string x.nm):=hcell 0 (by omega)
    have q1:wr.cell? ⟨b,o+j * 2+1,none⟩=some (.slice x.bs.A x.bs.bs.length x.bs.c):=hcell 1 (by omega)
    have b4:=HB4.out.cell 0 _ rfl
    have bl4:=HB4.out.lt
    have z4:=SecP.len HY4.out
    rw[zd,qh]at z4
    have HSe:=hid (section_any 111 (λ_ _=>rfl) #[.pointer (some ⟨w.heap.size,0,none⟩),.pointer (some ⟨wr.heap.size,0,none⟩)] (Bin.pCu (kCu x)) 0 (by unfold inI;omega) (HW4.out.alloc (.cells #[.string x.nm,.slice x.bs.A x.bs.bs.length x.bs.c] 48)) (by have:=hsl;simp only[zz]at this⊢;omega) (λw' hw hk'=>by
     have y1:=HB4.out.alloc (.cells #[.string x.nm,.slice x.bs.A x.bs.bs.length x.bs.c] 48)
     have y2:=Bx.new (vals:=[.string x.nm,.slice x.bs.A x.bs.bs.length x.bs.c]) HW4.out.wr #[.string x.nm,.slice x.bs.A x.bs.bs.length x.bs.c] 48 _ rfl rfl
     refine custom_any x (HC.out.1.cu.all x hxm) HC.out.2.2.2 hw ⟨λi z hi=>(zm (hk'.keep _ y1.lt y1.ne (by simp[Value.ownBlock])).1).trans (y1.cell i z hi),y1.ne,by simp[Value.ownBlock],zj y1.lt hk'.size⟩ ⟨λi z hi=>(zm (hk'.keep _ y2.lt y2.ne (by simp[Value.ownBlock])).1).trans (y2.cell i z hi),y2.ne,by simp[Value.ownBlock],zj y2.lt hk'.size⟩ (by have:=HC.out.2.1.cuL x hxm;simpa using this)))
    have HXx:=hid hx
    clear hcell hx hA hxm z4
    go_wp2_with(go_at_call 98;(with_reducible refine HSe.out.mono ?_);unfold SecP;rintro e w5 ⟨rfl,u5,ns5,hw5,hy5,hk5⟩;have HW5:=hid hw5;have HY5:=hid hy5;have HK5:=hid hk5;clear hw5 hy5 hk5)
    go_roundw
    case rel=>
     have hjx:=(List.getElem?_eq_some_iff.1 HXx.out).2
     refine⟨j+1,u5,ns4++ns5,by go_num,by omega,hid ?_,hid ?_,hid ((HK4.out.alloc _).trans HK5.out)⟩
     ·
      have h5:=HW5.out
      rw[zt]at h5
      rw[ql hlt,List.all_append,hjx]
      have e:∀(a b c:Bool),((a || !b) || !c)=(a || !(b&&c)):=by decide
      rw[e]at h5
      simpa using h5
     ·rw[qd,HY4.out,HY5.out,ql hlt,qd,hjx];rfl
    case measure=>simp[intOf];omega
   ·
    have hT4:m.cu.l.take j=m.cu.l:=zo (by omega)
    rw[hT4]at HW4 HY4
    go_wp2_with fail
    go_end0
    rw[<-HP.out]
    have hf:SecP W w0 w3 u3 ((((ss++ns9)++ns1)++ns2)++ns3) ((((bad || !o0) || !o1) || !o2) || !o3) (m.cu.l.map λx=>((0:Int),(Bin.pCu (kCu x)).1)) (m.cu.l.all λx=>(Bin.pCu (kCu x)).2) (.returned (.tuple #[])) wr:=⟨rfl,u4,ns4,HW4.out,HY4.out,HK4.out⟩
    exact(SecP.next (HK0.out.trans HK9.out) HY9.out (SecP.next HK1.out HY1.out (SecP.next HK2.out HY2.out (SecP.next HK3.out HY3.out hf))))
def okB(m:Mo):Bool:=
 ((Bin.pList Bin.pFt (m.ty.l.map kTy)).2&&((Bin.pList Bin.pIm m.im.l).2&&((Bin.pList Bin.pNum (m.fn.l.map Fn.ty)).2&&((Bin.pList Bin.pTab m.ta.l).2&&((Bin.pList Bin.pLim m.me.l).2&&((Bin.pList Bin.pGl (m.gl.l.map kGl)).2&&(Bin.pList Bin.pEx m.ex.l).2))))))&&
 ((decide (m.st= -1) || num32 m.st)&&((Bin.pList Bin.pEl (m.el.l.map kEl)).2&&((Bin.pList Bin.pFn (m.fn.l.map (λx:Fn=>(kFn x).2))).2&&((Bin.pList Bin.pDa (m.da.l.map kDa)).2&&(m.cu.l.all λx=>(Bin.pCu (kCu x)).2)))))
theorem okB_iff(m:Mo):okB m=true↔Bin.okD (Bin.ofK (keyM m)):=by
 have e1:(Bin.ofK (keyM m)).ft=m.fn.l.map Fn.ty:=by simp[Bin.ofK,keyM,kFn]
 have e2:(Bin.ofK (keyM m)).fn=m.fn.l.map (λx:Fn=>(kFn x).2):=by simp[Bin.ofK,keyM]
 unfold okB
 simp only[zp,jc,decide_eq_true_eq,List.all_eq_true]
 constructor
 ·
  rintro⟨⟨h1,h2,h3,h4,h5,h6,h7⟩,h8,h9,h10,h11,h12⟩
  exact⟨h1,h2,by rw[e1];exact h3,h4,h5,h6,h7,h8,h9,by rw[e2];exact h10,h11,λc hc=>by obtain⟨x,hx,rfl⟩:=List.mem_map.1 hc;exact h12 x hx⟩
 ·
  intro h
  exact⟨⟨h.ty,h.im,by have:=h.ft;rw[e1]at this;exact this,h.ta,h.me,h.gl,h.ex⟩,h.st,h.el,by have:=h.fn;rw[e2]at this;exact this,h.da,λx hx=>h.cu _ (qp (f:=kCu) hx)⟩
def encM(m:Mo):List UInt8:=Bin.encD (Bin.ofK (keyM m))
theorem smD_MoS{m:Mo}(h:Bin.smD (Bin.ofK (keyM m))):MoS m:=by
 have e1:(Bin.ofK (keyM m)).ft=m.fn.l.map Fn.ty:=by simp[Bin.ofK,keyM,kFn]
 have e2:(Bin.ofK (keyM m)).fn=m.fn.l.map (λx:Fn=>(kFn x).2):=by simp[Bin.ofK,keyM]
 have l1:=h.ty.1
 have l2:=h.im.1
 have l3:=h.ft
 have l4:=h.ta
 have l5:=h.me
 have l6:=h.gl.1
 have l7:=h.ex.1
 have l8:=h.el.1
 have l9:=h.da.1
 have l10:=h.cu.1
 have wx:∀f,Bin.sX f->wt f<=2200000:=λf hf=>by have:=Bin.wt_cnt f hf.lsh;have:=hf.cnt;omega
 have a10:=Bin.pList_len Bin.pFn 340724 64 _ h.fn.1 (λx hx=>Bin.pFn_len (h.fn.2 x hx))
 have a3:=Bin.pList_len Bin.pNum 10 64 _ h.ft (λx _=>Bin.pNum_len x)
 rw[e2]at a10
 rw[e1]at a3
 simp only[Bin.ofK,keyM,zd]at l1 l2 l3 l4 l5 l6 l7 l8 l9 l10
 have fn:∀x∈m.fn.l,Bin.sCode (kFn x).2:=λx hx=>h.fn.2 _ (qp (f:=λy:Int×List Int×Fo=>y.2) (qp (f:=kFn) hx))
 have gl:∀x∈m.gl.l,Bin.sGl (kGl x):=λx hx=>h.gl.2 _ (qp (f:=kGl) hx)
 have el:∀x∈m.el.l,Bin.sEl (kEl x):=λx hx=>h.el.2 _ (qp (f:=kEl) hx)
 have da:∀x∈m.da.l,Bin.sDa (kDa x):=λx hx=>h.da.2 _ (qp (f:=kDa) hx)
 refine⟨⟨l1,λx hx=>h.ty.2 _ (qp (f:=kTy) hx)⟩,l2,⟨l3,λx hx=>⟨(fn x hx).1,wx _ (fn x hx).2⟩⟩,l4,l5,⟨l6,λx hx=>wx _ (gl x hx)⟩,l7,⟨l8,λx hx=>⟨wx _ (el x hx).1,(el x hx).2⟩⟩,⟨l9,λx hx=>wx _ (da x hx).1⟩,l10,?_,?_,?_,?_,?_,?_,?_,?_,?_,?_,?_⟩
 ·have:=Bin.pList_len Bin.pFt 149 64 _ h.ty.1 (λx hx=>Bin.pFt_len (h.ty.2 x hx));exact zy this (by omega)
 ·have:=Bin.pList_len Bin.pIm 171 64 _ h.im.1 (λx hx=>Bin.pIm_len (h.im.2 x hx));exact zy this (by omega)
 ·omega
 ·have:=Bin.pList_len Bin.pTab 22 64 _ h.ta (λx _=>Bin.pTab_len x);exact zy this (by omega)
 ·have:=Bin.pList_len Bin.pLim 21 64 _ h.me (λx _=>Bin.pLim_len x);exact zy this (by omega)
 ·have:=Bin.pList_len Bin.pGl 340002 64 _ h.gl.1 (λx hx=>Bin.pGl_len (h.gl.2 x hx));exact zy this (by omega)
 ·have:=Bin.pList_len Bin.pEx 85 64 _ h.ex.1 (λx hx=>Bin.pEx_len (h.ex.2 x hx));exact zy this (by omega)
 ·have:=Bin.pList_len Bin.pEl 340660 64 _ h.el.1 (λx hx=>Bin.pEl_len (h.el.2 x hx));exact zy this (by omega)
 ·omega
 ·have:=Bin.pList_len Bin.pDa 344116 64 _ h.da.1 (λx hx=>Bin.pDa_len (h.da.2 x hx));exact zy this (by omega)
 ·
  intro x hx
  have:=Bin.pCu_len (h.cu.2 _ (qp (f:=kCu) hx))
  omega
theorem secs_eq(m:Mo):Bin.secs (Bin.ofK (keyM m))=(Bin.opt 1 Bin.pFt (m.ty.l.map kTy)++(Bin.opt 2 Bin.pIm m.im.l++(Bin.opt 3 Bin.pNum (m.fn.l.map Fn.ty)++(Bin.opt 4 Bin.pTab m.ta.l++(Bin.opt 5 Bin.pLim m.me.l++(Bin.opt 6 Bin.pGl (m.gl.l.map kGl)++Bin.opt 7 Bin.pEx m.ex.l))))))++
  (Bin.optS m.st++(Bin.opt 9 Bin.pEl (m.el.l.map kEl)++(Bin.opt 10 Bin.pFn (m.fn.l.map (λx:Fn=>(kFn x).2))++(Bin.opt 11 Bin.pDa (m.da.l.map kDa)++(m.cu.l.map λx=>((0:Int),(Bin.pCu (kCu x)).1)))))):=by
 have e1:(Bin.ofK (keyM m)).ft=m.fn.l.map Fn.ty:=by simp[Bin.ofK,keyM,kFn]
 have e2:(Bin.ofK (keyM m)).fn=m.fn.l.map (λx:Fn=>(kFn x).2):=by simp[Bin.ofK,keyM]
 unfold Bin.secs
 rw[e1,e2]
 simp[Bin.ofK,keyM,zt]
def EncQ(sm ok:Bool)(bs:List UInt8)(w:World):Ending->World->Prop:=match sm,ok with
 |false,_=>λe w'=>e=.returned (.tuple #[.slice none 0 0,.iface 40 (.int .i64 7)])/\Below w.heap.size w w'
 |true,false=>λe w'=>e=.returned (.tuple #[.slice none 0 0,.iface 40 (.int .i64 1)])/\Below w.heap.size w w'
 |true,true=>λe w'=>∃g c,e=.returned (.tuple #[.slice (some ⟨g,0,none⟩) bs.length c,.nilIface])/\bs.length<=c/\c<=maxLen/\Lies w w' g bs
def EncP(m:Mo)(w:World):Ending->World->Prop:=EncQ (smallM m) (okB m) (encM m) w
theorem Ws.fresh(w:World):Ws w.heap.size w (w.alloc (.cells #[.slice none 0 0,.slice none 0 0,.nilIface] 69)) (.slice none 0 0) [] false:=
 ⟨⟨zq _,zv _ _ _ _ rfl,zv _ _ _ _ rfl,zv _ _ _ _ rfl,λi=>zw _ _ _ _ rfl,OwnK.nil_ _ _ _ _ ((zx _ _).alloc (zq _) _) (by simp),by simp[Value.ownBlock]⟩,
  OwnK.nil_ _ _ _ _ ((zx _ _).alloc (zq _) _) (by simp),by simp[Value.ownBlock],by simp⟩
theorem Ws.secsAt{W:Nat}{w0 w:World}{u:Value}{ss:List Sc}{bad:Bool}(h:Ws W w0 w u ss bad):∃A c,u=.slice A ss.length c/\SecsAt w w.heap.size A ss:=by
 obtain⟨A,c,e,-,-,hr⟩:=h.ow.form
 rw[zd]at e
 exact⟨A,c,e,hr,λs hs=>h.new s hs w Agr.refl_⟩
theorem Encode_any(m:Mo)(w:World)(hm:m.ok w w.heap.size)(hN:Nam w)(hT:U8T w)(hc:Cn m):Calls prog 9 #[.agg #[.slice m.ty.A m.ty.l.length m.ty.c,.slice m.im.A m.im.l.length m.im.c,.slice m.fn.A m.fn.l.length m.fn.c,.slice m.ta.A m.ta.l.length m.ta.c,.slice m.me.A m.me.l.length m.me.c,.slice m.gl.A m.gl.l.length m.gl.c,.slice m.ex.A m.ex.l.length m.ex.c,.int .i64 m.st,.slice m.el.A m.el.l.length m.el.c,.slice m.da.A m.da.l.length m.da.c,.slice m.cu.A m.cu.l.length m.cu.c]] w (EncP m w):=by
 have hb1:Below w.heap.size w (w.alloc (.cells #[.slice m.ty.A m.ty.l.length m.ty.c,.slice m.im.A m.im.l.length m.im.c,.slice m.fn.A m.fn.l.length m.fn.c,.slice m.ta.A m.ta.l.length m.ta.c,.slice m.me.A m.me.l.length m.me.c,.slice m.gl.A m.gl.l.length m.gl.c,.slice m.ex.A m.ex.l.length m.ex.c,.int .i64 m.st,.slice m.el.A m.el.l.length m.el.c,.slice m.da.A m.da.l.length m.da.c,.slice m.cu.A m.cu.l.length m.cu.c] 32)):=(zx _ _).alloc (zq _) _
 have HSm:=hid (Small_any m (w.alloc (.cells #[.slice m.ty.A m.ty.l.length m.ty.c,.slice m.im.A m.im.l.length m.im.c,.slice m.fn.A m.fn.l.length m.fn.c,.slice m.ta.A m.ta.l.length m.ta.c,.slice m.me.A m.me.l.length m.me.c,.slice m.gl.A m.gl.l.length m.gl.c,.slice m.ex.A m.ex.l.length m.ex.c,.int .i64 m.st,.slice m.el.A m.el.l.length m.el.c,.slice m.da.A m.da.l.length m.da.c,.slice m.cu.A m.cu.l.length m.cu.c] 32)) (hN.below hb1) (hm.below hb1))
 unfold EncP
 cases hs:smallM m with
 |false=>
  rw[hs]at HSm
  unfold EncQ
  clear hm hN hT hc hs hb1
  go_enter func9,ntmps9
  go_wp2_with(first|(go_at_call 19;(with_reducible refine HSm.out.mono ?_);rintro e w1 ⟨rfl,h1⟩;have HB1:=hid (bel_alloc h1);clear h1))
  go_ret2
  exact⟨rfl,HB1.out⟩
 |true=>
  have hsm:=small_smD hm hc hs
  have HMs:=hid (smD_MoS hsm)
  have HEn:Hid ((encM m).length<=90000000):=hid (Bin.encD_len _ hsm)
  have HSe:=hid (secs_eq m)
  have hsl:=Bin.secs_len (Bin.ofK (keyM m))
  have hcu:=hsm.cu.1
  have HLn:Hid ((Bin.secs (Bin.ofK (keyM m))).length<=75):=hid (by omega)
  have HRi:=hid (Bin.secs_rise (Bin.ofK (keyM m)))
  rw[hs]at HSm
  obtain⟨kd,hkd⟩:∃k,(Bin.opt 1 Bin.pFt (m.ty.l.map kTy)++(Bin.opt 2 Bin.pIm m.im.l++(Bin.opt 3 Bin.pNum (m.fn.l.map Fn.ty)++(Bin.opt 4 Bin.pTab m.ta.l++(Bin.opt 5 Bin.pLim m.me.l++(Bin.opt 6 Bin.pGl (m.gl.l.map kGl)++Bin.opt 7 Bin.pEx m.ex.l))))))=k:=⟨_,rfl⟩
  obtain⟨kc,hkc⟩:∃k,(Bin.optS m.st++(Bin.opt 9 Bin.pEl (m.el.l.map kEl)++(Bin.opt 10 Bin.pFn (m.fn.l.map (λx:Fn=>(kFn x).2))++(Bin.opt 11 Bin.pDa (m.da.l.map kDa)++(m.cu.l.map λx=>((0:Int),(Bin.pCu (kCu x)).1))))))=k:=⟨_,rfl⟩
  obtain⟨od,hod⟩:∃o,((Bin.pList Bin.pFt (m.ty.l.map kTy)).2&&((Bin.pList Bin.pIm m.im.l).2&&((Bin.pList Bin.pNum (m.fn.l.map Fn.ty)).2&&((Bin.pList Bin.pTab m.ta.l).2&&((Bin.pList Bin.pLim m.me.l).2&&((Bin.pList Bin.pGl (m.gl.l.map kGl)).2&&(Bin.pList Bin.pEx m.ex.l).2))))))=o:=⟨_,rfl⟩
  obtain⟨oc,hoc⟩:∃o,((decide (m.st= -1) || num32 m.st)&&((Bin.pList Bin.pEl (m.el.l.map kEl)).2&&((Bin.pList Bin.pFn (m.fn.l.map (λx:Fn=>(kFn x).2))).2&&((Bin.pList Bin.pDa (m.da.l.map kDa)).2&&(m.cu.l.all λx=>(Bin.pCu (kCu x)).2)))))=o:=⟨_,rfl⟩
  have hok:okB m=(od&&oc):=by rw[<-hod,<-hoc];rfl
  rw[hkd,hkc]at HSe
  have HDe:=hid (λ(wx:World) (hbx:Below w.heap.size w wx)=>by have:=declarations_any (hm.keep hbx.size (Below.kp hbx)) HMs.out (hN.below hbx) (hT.below hbx) (Ws.fresh wx) (by simp);rw[hkd,hod]at this;exact this)
  have HCo:=hid (λ(wx:World) (hbx:Below w.heap.size w wx) (w':World) (u':Value) (ss':List Sc) (bad':Bool) (h':Ws wx.heap.size wx w' u' ss' bad') (hss':ss'.length<=100)=>by have:=contents_any (hm.keep hbx.size (Below.kp hbx)) HMs.out (hN.below hbx) (hT.below hbx) h' hss';rw[hkc,hoc]at this;exact this)
  rw[hok]
  have hlk:kd.length+kc.length<=75:=by have:=HLn.out;rw[HSe.out,zz]at this;exact this
  clear hm hN hT hc hs hsm hsl hcu hkd hkc hod hoc hok
  refine postL λP hP=>?_
  have HP:=hid hP
  clear hP hb1
  cases od<;>cases oc
  rotate_left 3
  ·
   go_enter func9,ntmps9
   go_wp2_with(first
    |(go_at_call 19;(with_reducible refine HSm.out.mono ?_);rintro e w1 ⟨rfl,h1⟩;have HB1:=hid (bel_alloc h1);have cm:∀i x,[.slice m.ty.A m.ty.l.length m.ty.c,.slice m.im.A m.im.l.length m.im.c,.slice m.fn.A m.fn.l.length m.fn.c,.slice m.ta.A m.ta.l.length m.ta.c,.slice m.me.A m.me.l.length m.me.c,.slice m.gl.A m.gl.l.length m.gl.c,.slice m.ex.A m.ex.l.length m.ex.c,.int .i64 m.st,.slice m.el.A m.el.l.length m.el.c,.slice m.da.A m.da.l.length m.da.c,.slice m.cu.A m.cu.l.length m.cu.c][i]? =some x->w1.cell? ⟨w.heap.size,i,none⟩=some x:=(λi x hi=>(h1.cell (p:=⟨w.heap.size,i,none⟩) (by simp)).trans ((zv _ _ _ _ rfl).trans (by simpa using hi)));have cl:w.heap.size<w1.heap.size:=(by have:=h1.size;simp at this;omega);have HM1:=hid cm;have a0:=cm 0 _ rfl;have a1:=cm 1 _ rfl;have a2:=cm 2 _ rfl;have a3:=cm 3 _ rfl;have a4:=cm 4 _ rfl;have a5:=cm 5 _ rfl;have a6:=cm 6 _ rfl;have a7:=cm 7 _ rfl;have a8:=cm 8 _ rfl;have a9:=cm 9 _ rfl;have a10:=cm 10 _ rfl;clear h1 cm)
    |(go_at_call 20;(with_reducible refine(HDe.out _ HB1.out).mono ?_);unfold SecP;rintro e w2 ⟨rfl,u2,ns2,hw2,hy2,hk2⟩;have HW2:=hid hw2;have HY2:=hid hy2;have HB2:=hid hw2.wr.below;have c0:=(HB2.out.cell (p:=⟨w.heap.size,0,none⟩) cl).trans (HM1.out 0 _ rfl);have c1:=(HB2.out.cell (p:=⟨w.heap.size,1,none⟩) cl).trans (HM1.out 1 _ rfl);have c2:=(HB2.out.cell (p:=⟨w.heap.size,2,none⟩) cl).trans (HM1.out 2 _ rfl);have c3:=(HB2.out.cell (p:=⟨w.heap.size,3,none⟩) cl).trans (HM1.out 3 _ rfl);have c4:=(HB2.out.cell (p:=⟨w.heap.size,4,none⟩) cl).trans (HM1.out 4 _ rfl);have c5:=(HB2.out.cell (p:=⟨w.heap.size,5,none⟩) cl).trans (HM1.out 5 _ rfl);have c6:=(HB2.out.cell (p:=⟨w.heap.size,6,none⟩) cl).trans (HM1.out 6 _ rfl);have c7:=(HB2.out.cell (p:=⟨w.heap.size,7,none⟩) cl).trans (HM1.out 7 _ rfl);have c8:=(HB2.out.cell (p:=⟨w.heap.size,8,none⟩) cl).trans (HM1.out 8 _ rfl);have c9:=(HB2.out.cell (p:=⟨w.heap.size,9,none⟩) cl).trans (HM1.out 9 _ rfl);have c10:=(HB2.out.cell (p:=⟨w.heap.size,10,none⟩) cl).trans (HM1.out 10 _ rfl);clear hw2 hy2 hk2)
    |(go_at_call 21;(with_reducible refine(HCo.out _ HB1.out _ _ _ _ HW2.out (by have:=SecP.len HY2.out;simp;omega)).mono ?_);unfold SecP;rintro e w3 ⟨rfl,u3,ns3,hw3,hy3,hk3⟩;have HW3:=hid hw3;have HY3:=hid hy3;have HB3:=hid hw3.wr.below;have e2:w3.cell? ⟨w1.heap.size,2,none⟩=some .nilIface:=hw3.wr.c2;have hkey:(([]++ns2)++ns3).map Sc.key=Bin.secs (Bin.ofK (keyM m)):=(by rw[qx,qd,hy3,HY2.out,HSe.out]);obtain⟨SS,hSS⟩:∃SS,([]++ns2)++ns3=SS:=⟨_,rfl⟩;rw[hSS]at hw3 hkey;clear hSS;obtain⟨A3,c3,hu3,hsec⟩:=hw3.secsAt;have e1:=hw3.wr.c1;rw[hu3]at e1;have hjb:jnB SS=encM m:=(by unfold jnB encM Bin.encD;rw[hkey]);have hlen:SS.length<=75:=(by have h7:=congrArg List.length hkey;rw[zd]at h7;have:=HLn.out;omega);have hmay:mayJ SS=true:=(by unfold mayJ;rw[zp];refine⟨decide_eq_true (by omega),?_⟩;have h7:=HRi.out;rw[<-hkey,List.map_map]at h7;exact h7);have hj:=Join_any SS A3 c3 w3 hsec (by omega) (by rw[hjb];have:=HEn.out;omega);unfold JoinR at hj;rw[hmay]at hj;dsimp only at hj;rw[hjb]at hj;have HJ:=hid hj;clear hw3 hy3 hk3 hsec hkey hjb hmay hj hu3)
    |(go_at_call 22;(with_reducible refine HJ.out.mono ?_);rintro e w4 ⟨g4,c4,rfl,hl4,hm4,hli4⟩;have HL4:=hid hl4;have HM4:=hid hm4;have HI4:=hid (hli4.base (HB1.out.trans (HB3.out.mono HB1.out.size)));clear hl4 hm4 hli4))
   rw[<-HP.out]
   exact⟨g4,c4,rfl,HL4.out,HM4.out,HI4.out⟩
  all_goals
   go_enter func9,ntmps9
   go_wp2_with(first
    |(go_at_call 19;(with_reducible refine HSm.out.mono ?_);rintro e w1 ⟨rfl,h1⟩;have HB1:=hid (bel_alloc h1);have cm:∀i x,[.slice m.ty.A m.ty.l.length m.ty.c,.slice m.im.A m.im.l.length m.im.c,.slice m.fn.A m.fn.l.length m.fn.c,.slice m.ta.A m.ta.l.length m.ta.c,.slice m.me.A m.me.l.length m.me.c,.slice m.gl.A m.gl.l.length m.gl.c,.slice m.ex.A m.ex.l.length m.ex.c,.int .i64 m.st,.slice m.el.A m.el.l.length m.el.c,.slice m.da.A m.da.l.length m.da.c,.slice m.cu.A m.cu.l.length m.cu.c][i]? =some x->w1.cell? ⟨w.heap.size,i,none⟩=some x:=(λi x hi=>(h1.cell (p:=⟨w.heap.size,i,none⟩) (by simp)).trans ((zv _ _ _ _ rfl).trans (by simpa using hi)));have cl:w.heap.size<w1.heap.size:=(by have:=h1.size;simp at this;omega);have HM1:=hid cm;have a0:=cm 0 _ rfl;have a1:=cm 1 _ rfl;have a2:=cm 2 _ rfl;have a3:=cm 3 _ rfl;have a4:=cm 4 _ rfl;have a5:=cm 5 _ rfl;have a6:=cm 6 _ rfl;have a7:=cm 7 _ rfl;have a8:=cm 8 _ rfl;have a9:=cm 9 _ rfl;have a10:=cm 10 _ rfl;clear h1 cm)
    |(go_at_call 20;(with_reducible refine(HDe.out _ HB1.out).mono ?_);unfold SecP;rintro e w2 ⟨rfl,u2,ns2,hw2,hy2,hk2⟩;have HW2:=hid hw2;have HY2:=hid hy2;have HB2:=hid hw2.wr.below;have c0:=(HB2.out.cell (p:=⟨w.heap.size,0,none⟩) cl).trans (HM1.out 0 _ rfl);have c1:=(HB2.out.cell (p:=⟨w.heap.size,1,none⟩) cl).trans (HM1.out 1 _ rfl);have c2:=(HB2.out.cell (p:=⟨w.heap.size,2,none⟩) cl).trans (HM1.out 2 _ rfl);have c3:=(HB2.out.cell (p:=⟨w.heap.size,3,none⟩) cl).trans (HM1.out 3 _ rfl);have c4:=(HB2.out.cell (p:=⟨w.heap.size,4,none⟩) cl).trans (HM1.out 4 _ rfl);have c5:=(HB2.out.cell (p:=⟨w.heap.size,5,none⟩) cl).trans (HM1.out 5 _ rfl);have c6:=(HB2.out.cell (p:=⟨w.heap.size,6,none⟩) cl).trans (HM1.out 6 _ rfl);have c7:=(HB2.out.cell (p:=⟨w.heap.size,7,none⟩) cl).trans (HM1.out 7 _ rfl);have c8:=(HB2.out.cell (p:=⟨w.heap.size,8,none⟩) cl).trans (HM1.out 8 _ rfl);have c9:=(HB2.out.cell (p:=⟨w.heap.size,9,none⟩) cl).trans (HM1.out 9 _ rfl);have c10:=(HB2.out.cell (p:=⟨w.heap.size,10,none⟩) cl).trans (HM1.out 10 _ rfl);clear hw2 hy2 hk2)
    |(go_at_call 21;(with_reducible refine(HCo.out _ HB1.out _ _ _ _ HW2.out (by have:=SecP.len HY2.out;simp;omega)).mono ?_);unfold SecP;rintro e w3 ⟨rfl,u3,ns3,hw3,hy3,hk3⟩;have HW3:=hid hw3;have HY3:=hid hy3;have HB3:=hid hw3.wr.below;have e2:w3.cell? ⟨w1.heap.size,2,none⟩=some (.iface 40 (.int .i64 1)):=hw3.wr.c2;clear hw3 hy3 hk3))
   refine wp_region_held_drew (S:=λw'=>w'.cell? ⟨w1.heap.size,2,none⟩=some (.iface 40 (.int .i64 1))) (by kernel_rfl) e2 (λhHeld=>?_)
   refine rtk 0 22 ?_
   refine rtk 1 23 ?_
   refine rtk 2 24 ?_
   refine rtk 3 25 ?_
   refine rtk 4 2 ?_
   refine rtk 5 3 ?_
   refine wpAnyH_done (by kernel_rfl) ?_ _
   go_wp2_with fail
   rw[<-HP.out]
   exact⟨rfl,(HB1.out.trans (HB3.out.mono HB1.out.size)).trans (zx _ _).drew⟩
end Go.Proofs.YteoijlfipmaoeaaGreatDoor
