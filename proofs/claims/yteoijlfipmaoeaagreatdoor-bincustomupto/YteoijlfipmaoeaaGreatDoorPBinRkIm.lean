import Derived.Test.YteoijlfipmaoeaaGreatDoorPJ26
import Derived.Deep.DeepCutAuto
set_option linter.unusedVariables false
set_option linter.unusedSimpArgs false
set_option maxRecDepth 100000
set_option maxHeartbeats 32000000
namespace Go.Proofs.YteoijlfipmaoeaaGreatDoor
open Lib (hid)
open Go.RowKit Trx
open Go.Proofs.Tryz
structure ImA(R:Nat)(w0 w:World)(A:Option Addr)(c:Nat)(bs:List UInt8)(X:Nat)(r1 r2:Option (ByteArray×Nat))(r3:Option (Int×Nat))(N L:Nat)(ta tb:ByteArray)(tk:Int)(p:Nat)(er:Value)(W:World):Prop where
 rst:Rst R w0 W A c bs (r3.map (·.2)) p er
 kx:Kx (Only R) w W
 res:Bk R W N [.string ⟨#[]⟩,.string ⟨#[]⟩,.int .i64 0,.int .i64 0,.bool false,.int .i64 0,.int .i64 0,.bool false]
 cell:Bk R W L [.string ta,.string tb,.int .i64 tk,.int .i64 0,.bool false,.int .i64 0,.int .i64 0,.bool false]
 ne:L≠N
 new:w.heap.size<=L
 box:W.cell? ⟨X,0,none⟩=some (pR R)
 lo:0<=tk
 hi:tk<=255
 e1:∀x q,r1=some (x,q)->x=ta
 e2:∀x q,r2=some (x,q)->x=tb
 e3:∀x q,r3=some (x,q)->x=tk
section
variable{R:Nat}{w0 w:World}{A:Option Addr}{c:Nat}{bs:List UInt8}{st:Option Nat}{p:Nat}{er:Value}
theorem c_imports1{X:Nat}(hU:U8T w0)(hE:Et w0)(h:Rst R w0 w A c bs st p er)(hX:w.cell? ⟨X,0,none⟩=some (pR R))(hXR:X≠R):
  Calls prog 201 #[.pointer (some ⟨X,0,none⟩)] w (RdE (λx:Im=>(.agg #[.string x.md,.string x.nm,.int .i64 x.kd,.int .i64 x.ty,.bool x.mu,.int .i64 x.lm.mn,.int .i64 x.lm.mx,.bool x.lm.hs]:Value)) (λx=>x) (FrK λ_ _=>Im.ok) R w0 w A c bs (st.bind λq=>Bin.gIm bs q)):=by
 have HN0:=hid (Rz.new h hX [.string ⟨#[]⟩,.string ⟨#[]⟩,.int .i64 0,.int .i64 0,.bool false,.int .i64 0,.int .i64 0,.bool false] 77)
 have hge:=h.bel.size
 have hRl:=h.lt
 have HXn:=hid (show X≠w.heap.size from jb (zn _ _ hX))
 have HXl:=hid (zn _ _ hX)
 obtain⟨r1,hr1⟩:∃r,(st.bind λq=>Bin.gName bs q)=r:=⟨_,rfl⟩
 obtain⟨r2,hr2⟩:∃r,((r1.map (·.2)).bind λq=>Bin.gName bs q)=r:=⟨_,rfl⟩
 obtain⟨r3,hr3⟩:∃r,((r2.map (·.2)).bind λq=>Bin.gKind bs q)=r:=⟨_,rfl⟩
 have HE:=hid (λ(ta tb:ByteArray) (tk:Int)=>im_eq (ta:=ta) (tb:=tb) (tk:=tk) hr1 hr2 hr3)
 have HG:=hid (λx q (e:(st.bind λq=>Bin.gIm bs q)=some (x,q))=>h.got Bin.im_got e)
 have HR1:=hid hr1
 have HR2:=hid hr2
 have HR3:=hid hr3
 have HU:=hid hU
 have HEt:=hid hE
 obtain⟨res,hres⟩:∃res,(st.bind λq=>Bin.gIm bs q)=res:=⟨_,rfl⟩
 rw[hres]at HE HG⊢
 refine postL λP hP=>?_
 have HP:=hid hP
 clear h hP hr1 hr2 hr3 hU hE hres
 go_enter func201,ntmps201
 go_upto_region 1 with(fail)
 obtain⟨W0,hW0⟩:∃W0:World,W0=w.alloc (.cells #[.string ⟨#[]⟩,.string ⟨#[]⟩,.int .i64 0,.int .i64 0,.bool false,.int .i64 0,.int .i64 0,.bool false] 77):=⟨_,rfl⟩
 have S0:=hid HN0.out.drew
 rw[<-hW0]at S0⊢
 clear hW0 HN0
 go_cut [2] (λs wx=>∃(L:Nat) (ta tb:ByteArray) (tk:Int) (p4:Nat) (er4:Value),s=.pointer (some ⟨L,0,none⟩)/\ImA R w0 w A c bs X r1 r2 r3 w.heap.size L ta tb tk p4 er4 wx)
 case first=>
  refine wp_region_held_drew (S:=λw'=>w'.cell? ⟨X,0,none⟩=some (pR R)) (by kernel_rfl) S0.out.x (λhHeld=>?_)
  obtain⟨W1,hW1⟩:∃W1:World,W1=W0.drew:=⟨_,rfl⟩
  have S1:=S0
  rw[<-hW1]at S1 hHeld⊢
  clear hW1 S0
  refine rtk 0 3 ?_
  refine rtk 2 5 ?_
  refine rtk 4 7 ?_
  refine wpAnyH_ready (rs:=[1,7]) (by kernel_rfl) (by simp) ?_
  refine AllReadyH.cons rfl (λK hK=>?_) (AllReadyH.cons rfl (λK hK=>?_) AllReadyH.nil)
  ·
   go_simp
   refine(rname_any HU.out HEt.out S1.out.r).mono ?_
   unfold RdS8 RdQ
   rintro e w2 ⟨v2,p2,er2,rfl,h2,hk2,⟨t2,rfl⟩,hv2⟩
   rw[HR1.out]at h2 hv2
   have S2:=hid (S1.out.step hXR h2 hk2)
   have HV2:=hid hv2
   clear h2 hk2 hv2
   go_wp2_with fail
   refine rbk hK S2.out.x λhHeld=>?_;clear hK K
   refine wpAnyH_ready (rs:=[3,7]) (by kernel_rfl) (by simp) ?_
   refine AllReadyH.cons rfl (λK hK=>?_) (AllReadyH.cons rfl (λK hK=>?_) AllReadyH.nil)
   ·
    go_simp
    refine(rname_any HU.out HEt.out S2.out.r).mono ?_
    unfold RdS8 RdQ
    rintro e w3 ⟨v3,p3,er3,rfl,h3,hk3,⟨t3,rfl⟩,hv3⟩
    rw[HR2.out]at h3 hv3
    have S3:=hid (S2.out.step hXR h3 hk3)
    have HV3:=hid hv3
    clear h3 hk3 hv3
    go_wp2_with fail
    refine rbk hK S3.out.x λhHeld=>?_;clear hK K
    refine wpAnyH_ready (rs:=[5,7]) (by kernel_rfl) (by simp) ?_
    refine AllReadyH.cons rfl (λK hK=>?_) (AllReadyH.cons rfl (λK hK=>?_) AllReadyH.nil)
    ·
     go_simp
     refine(rkind_any S3.out.r).mono ?_
     unfold RdQ
     rintro e w4 ⟨v4,p4,er4,rfl,h4,hk4,⟨t4,rfl,lo4,hi4⟩,hv4⟩
     rw[HR3.out]at h4 hv4
     have S4:=hid (S3.out.step hXR h4 hk4)
     have HV4:=hid hv4
     clear h4 hk4 hv4
     go_wp2_with fail
     refine rbk hK S4.out.x λhHeld=>?_;clear hK K
     refine rtk 6 9 ?_
     refine rcl 7 λK hK=>?_
     go_simp
     refine rbk hK (S4.out.alloc _).x λhHeld=>?_;clear hK K
     obtain⟨Wa,L,hWa,hL,hl,sd,hLn⟩:=S4.out.box [.string ⟨#[]⟩,.string ⟨#[]⟩,.int .i64 0,.int .i64 0,.bool false,.int .i64 0,.int .i64 0,.bool false] 77
     have HL4:=hid hl
     have HLn:=hid hLn
     clear S4
     have S4:=hid sd
     rw[<-hWa]at hHeld
     rw[<-hWa,<-hL]
     clear hWa hL hl sd hLn
     have Y:=HL4.out.all
     simp only[Bk.A,Nat.reduceAdd,and_true]at Y
     obtain⟨y0,g0,y1,g1,y2,g2,y3,g3,y4,g4,y5,g5,y6,g6,y7,g7⟩:=Y
     have hXL:X≠L:=HLn.out.2.2
     have hge2:=zy hge HLn.out.2.1
     refine rcl 8 λK hK=>?_
     go_simp
     refine rbk hK (by simp[zk,hXL,Ne.symm hXL,S4.out.x]) λhHeld=>?_;clear hK K
     refine wpAnyH_done (by kernel_rfl) ?_ _
     clear hHeld
     go_wp2_with fail
     go_meet
     case rel=>exact⟨L,t2,t3,t4,p4,er4,rfl,⟨by(repeat refine Rst.setOther ?_ hge2 HL4.out.ne _ _);exact S4.out.r,by(repeat refine Kx.setCell ?_ (.inr HLn.out.2.1) _);exact S4.out.k,by(repeat refine Bk.setOther ?_ HLn.out.1 _ _);exact S4.out.b,((((((((HL4.out.set 0 _ (by simp)).set 1 _ (by simp)).set 2 _ (by simp)).set 3 _ (by simp)).set 4 _ (by simp)).set 5 _ (by simp)).set 6 _ (by simp)).set 7 _ (by simp)),HLn.out.1,HLn.out.2.1,by simp[zk,HLn.out.2.2,Ne.symm HLn.out.2.2,S4.out.x],lo4,hi4,λx q e=>(by have:=HV2.out x q e;injection this with this;exact this.symm),λx q e=>(by have:=HV3.out x q e;injection this with this;exact this.symm),λx q e=>(i64_inj (HV4.out x q e)).symm⟩⟩
    ·
     go_simp
     refine rbk hK (S3.out.alloc _).x λhHeld=>?_;clear hK K
     obtain⟨Wa,L,hWa,hL,hl,sd,hLn⟩:=S3.out.box [.string ⟨#[]⟩,.string ⟨#[]⟩,.int .i64 0,.int .i64 0,.bool false,.int .i64 0,.int .i64 0,.bool false] 77
     have HL3:=hid hl
     have HLn:=hid hLn
     clear S3
     have S3:=hid sd
     rw[<-hWa]at hHeld
     rw[<-hWa,<-hL]
     clear hWa hL hl sd hLn
     refine rcl 5 λK hK=>?_
     go_simp
     refine(rkind_any S3.out.r).mono ?_
     unfold RdQ
     rintro e w4 ⟨v4,p4,er4,rfl,h4,hk4,⟨t4,rfl,lo4,hi4⟩,hv4⟩
     rw[HR3.out]at h4 hv4
     have S4:=hid (S3.out.step hXR h4 hk4)
     have HV4:=hid hv4
     have HL4:=hid (HL3.out.kx hk4)
     clear h4 hk4 hv4
     go_wp2_with fail
     refine rbk hK S4.out.x λhHeld=>?_;clear hK K
     refine rtk 6 9 ?_
     have Y:=HL4.out.all
     simp only[Bk.A,Nat.reduceAdd,and_true]at Y
     obtain⟨y0,g0,y1,g1,y2,g2,y3,g3,y4,g4,y5,g5,y6,g6,y7,g7⟩:=Y
     have hXL:X≠L:=HLn.out.2.2
     have hge2:=zy hge HLn.out.2.1
     refine rcl 8 λK hK=>?_
     go_simp
     refine rbk hK (by simp[zk,hXL,Ne.symm hXL,S4.out.x]) λhHeld=>?_;clear hK K
     refine wpAnyH_done (by kernel_rfl) ?_ _
     clear hHeld
     go_wp2_with fail
     go_meet
     case rel=>exact⟨L,t2,t3,t4,p4,er4,rfl,⟨by(repeat refine Rst.setOther ?_ hge2 HL4.out.ne _ _);exact S4.out.r,by(repeat refine Kx.setCell ?_ (.inr HLn.out.2.1) _);exact S4.out.k,by(repeat refine Bk.setOther ?_ HLn.out.1 _ _);exact S4.out.b,((((((((HL4.out.set 0 _ (by simp)).set 1 _ (by simp)).set 2 _ (by simp)).set 3 _ (by simp)).set 4 _ (by simp)).set 5 _ (by simp)).set 6 _ (by simp)).set 7 _ (by simp)),HLn.out.1,HLn.out.2.1,by simp[zk,HLn.out.2.2,Ne.symm HLn.out.2.2,S4.out.x],lo4,hi4,λx q e=>(by have:=HV2.out x q e;injection this with this;exact this.symm),λx q e=>(by have:=HV3.out x q e;injection this with this;exact this.symm),λx q e=>(i64_inj (HV4.out x q e)).symm⟩⟩
   ·
    go_simp
    refine rbk hK (S2.out.alloc _).x λhHeld=>?_;clear hK K
    obtain⟨Wa,L,hWa,hL,hl,sd,hLn⟩:=S2.out.box [.string ⟨#[]⟩,.string ⟨#[]⟩,.int .i64 0,.int .i64 0,.bool false,.int .i64 0,.int .i64 0,.bool false] 77
    have HL2:=hid hl
    have HLn:=hid hLn
    clear S2
    have S2:=hid sd
    rw[<-hWa]at hHeld
    rw[<-hWa,<-hL]
    clear hWa hL hl sd hLn
    refine rcl 3 λK hK=>?_
    go_simp
    refine(rname_any HU.out HEt.out S2.out.r).mono ?_
    unfold RdS8 RdQ
    rintro e w3 ⟨v3,p3,er3,rfl,h3,hk3,⟨t3,rfl⟩,hv3⟩
    rw[HR2.out]at h3 hv3
    have S3:=hid (S2.out.step hXR h3 hk3)
    have HV3:=hid hv3
    have HL3:=hid (HL2.out.kx hk3)
    clear h3 hk3 hv3
    go_wp2_with fail
    refine rbk hK S3.out.x λhHeld=>?_;clear hK K
    refine rcl 5 λK hK=>?_
    go_simp
    refine(rkind_any S3.out.r).mono ?_
    unfold RdQ
    rintro e w4 ⟨v4,p4,er4,rfl,h4,hk4,⟨t4,rfl,lo4,hi4⟩,hv4⟩
    rw[HR3.out]at h4 hv4
    have S4:=hid (S3.out.step hXR h4 hk4)
    have HV4:=hid hv4
    have HL4:=hid (HL3.out.kx hk4)
    clear h4 hk4 hv4
    go_wp2_with fail
    refine rbk hK S4.out.x λhHeld=>?_;clear hK K
    refine rtk 6 9 ?_
    have Y:=HL4.out.all
    simp only[Bk.A,Nat.reduceAdd,and_true]at Y
    obtain⟨y0,g0,y1,g1,y2,g2,y3,g3,y4,g4,y5,g5,y6,g6,y7,g7⟩:=Y
    have hXL:X≠L:=HLn.out.2.2
    have hge2:=zy hge HLn.out.2.1
    refine rcl 8 λK hK=>?_
    go_simp
    refine rbk hK (by simp[zk,hXL,Ne.symm hXL,S4.out.x]) λhHeld=>?_;clear hK K
    refine wpAnyH_done (by kernel_rfl) ?_ _
    clear hHeld
    go_wp2_with fail
    go_meet
    case rel=>exact⟨L,t2,t3,t4,p4,er4,rfl,⟨by(repeat refine Rst.setOther ?_ hge2 HL4.out.ne _ _);exact S4.out.r,by(repeat refine Kx.setCell ?_ (.inr HLn.out.2.1) _);exact S4.out.k,by(repeat refine Bk.setOther ?_ HLn.out.1 _ _);exact S4.out.b,((((((((HL4.out.set 0 _ (by simp)).set 1 _ (by simp)).set 2 _ (by simp)).set 3 _ (by simp)).set 4 _ (by simp)).set 5 _ (by simp)).set 6 _ (by simp)).set 7 _ (by simp)),HLn.out.1,HLn.out.2.1,by simp[zk,HLn.out.2.2,Ne.symm HLn.out.2.2,S4.out.x],lo4,hi4,λx q e=>(by have:=HV2.out x q e;injection this with this;exact this.symm),λx q e=>(by have:=HV3.out x q e;injection this with this;exact this.symm),λx q e=>(i64_inj (HV4.out x q e)).symm⟩⟩
  ·
   go_simp
   refine rbk hK (S1.out.alloc _).x λhHeld=>?_;clear hK K
   obtain⟨Wa,L,hWa,hL,hl,sd,hLn⟩:=S1.out.box [.string ⟨#[]⟩,.string ⟨#[]⟩,.int .i64 0,.int .i64 0,.bool false,.int .i64 0,.int .i64 0,.bool false] 77
   have HL1:=hid hl
   have HLn:=hid hLn
   clear S1
   have S1:=hid sd
   rw[<-hWa]at hHeld
   rw[<-hWa,<-hL]
   clear hWa hL hl sd hLn
   refine rcl 1 λK hK=>?_
   go_simp
   refine(rname_any HU.out HEt.out S1.out.r).mono ?_
   unfold RdS8 RdQ
   rintro e w2 ⟨v2,p2,er2,rfl,h2,hk2,⟨t2,rfl⟩,hv2⟩
   rw[HR1.out]at h2 hv2
   have S2:=hid (S1.out.step hXR h2 hk2)
   have HV2:=hid hv2
   have HL2:=hid (HL1.out.kx hk2)
   clear h2 hk2 hv2
   go_wp2_with fail
   refine rbk hK S2.out.x λhHeld=>?_;clear hK K
   refine rcl 3 λK hK=>?_
   go_simp
   refine(rname_any HU.out HEt.out S2.out.r).mono ?_
   unfold RdS8 RdQ
   rintro e w3 ⟨v3,p3,er3,rfl,h3,hk3,⟨t3,rfl⟩,hv3⟩
   rw[HR2.out]at h3 hv3
   have S3:=hid (S2.out.step hXR h3 hk3)
   have HV3:=hid hv3
   have HL3:=hid (HL2.out.kx hk3)
   clear h3 hk3 hv3
   go_wp2_with fail
   refine rbk hK S3.out.x λhHeld=>?_;clear hK K
   refine rcl 5 λK hK=>?_
   go_simp
   refine(rkind_any S3.out.r).mono ?_
   unfold RdQ
   rintro e w4 ⟨v4,p4,er4,rfl,h4,hk4,⟨t4,rfl,lo4,hi4⟩,hv4⟩
   rw[HR3.out]at h4 hv4
   have S4:=hid (S3.out.step hXR h4 hk4)
   have HV4:=hid hv4
   have HL4:=hid (HL3.out.kx hk4)
   clear h4 hk4 hv4
   go_wp2_with fail
   refine rbk hK S4.out.x λhHeld=>?_;clear hK K
   refine rtk 6 9 ?_
   have Y:=HL4.out.all
   simp only[Bk.A,Nat.reduceAdd,and_true]at Y
   obtain⟨y0,g0,y1,g1,y2,g2,y3,g3,y4,g4,y5,g5,y6,g6,y7,g7⟩:=Y
   have hXL:X≠L:=HLn.out.2.2
   have hge2:=zy hge HLn.out.2.1
   refine rcl 8 λK hK=>?_
   go_simp
   refine rbk hK (by simp[zk,hXL,Ne.symm hXL,S4.out.x]) λhHeld=>?_;clear hK K
   refine wpAnyH_done (by kernel_rfl) ?_ _
   clear hHeld
   go_wp2_with fail
   go_meet
   case rel=>exact⟨L,t2,t3,t4,p4,er4,rfl,⟨by(repeat refine Rst.setOther ?_ hge2 HL4.out.ne _ _);exact S4.out.r,by(repeat refine Kx.setCell ?_ (.inr HLn.out.2.1) _);exact S4.out.k,by(repeat refine Bk.setOther ?_ HLn.out.1 _ _);exact S4.out.b,((((((((HL4.out.set 0 _ (by simp)).set 1 _ (by simp)).set 2 _ (by simp)).set 3 _ (by simp)).set 4 _ (by simp)).set 5 _ (by simp)).set 6 _ (by simp)).set 7 _ (by simp)),HLn.out.1,HLn.out.2.1,by simp[zk,HLn.out.2.2,Ne.symm HLn.out.2.2,S4.out.x],lo4,hi4,λx q e=>(by have:=HV2.out x q e;injection this with this;exact this.symm),λx q e=>(by have:=HV3.out x q e;injection this with this;exact this.symm),λx q e=>(i64_inj (HV4.out x q e)).symm⟩⟩
 case rest=>
  obtain⟨L,ta,tb,tk,p4,er4,rfl,hI⟩:=hcut
  have HI:=hid hI
  have y2:=hI.cell.cell 2 _ rfl
  have hbx:=hI.box
  have tlo:=hI.lo
  have thi:=hI.hi
  have HE2:=hid (HE.out ta tb tk hI.e1 hI.e2 hI.e3)
  have hLN:L≠w.heap.size:=hI.ne
  have hNL:w.heap.size≠L:=Ne.symm hLN
  have hnw:w.heap.size≠R:=hI.res.ne
  have hLR:L≠R:=hI.cell.ne
  have hge2:w0.heap.size<=L:=zy hge hI.new
  have hnew:=hI.new
  clear hI HE
  by_cases k0:tk=0
  ·
   subst k0
   obtain⟨r4,hr4⟩:∃r,((r3.map (·.2)).bind λq=>Bin.gNum bs q)=r:=⟨_,rfl⟩
   have HQ:=hid (HE2.out.trans (im_0 (a:=ta) (b:=tb) hr4))
   have HR4:=hid hr4
   clear hr4
   go_wp2_with fail
   refine(rnumber_any HI.out.rst).mono ?_
   unfold RdQ
   rintro e w6 ⟨v6,p6,er6,rfl,h6,hk6,⟨t6,rfl,lo6,hi6⟩,hv6⟩
   rw[HR4.out]at h6 hv6
   have H6:=hid h6
   have HK6:=hid (HI.out.kx.trans hk6)
   have HL6:=hid (HI.out.cell.kx hk6)
   have HN6:=hid (HI.out.res.kx hk6)
   have HX6:=hid (hk6.cell (show¬X=R from hXR) HI.out.box)
   have HV6:=hid hv6
   clear h6 hk6 hv6 y2 hbx
   have Y:=HL6.out.all
   simp only[Bk.A,Nat.reduceAdd,and_true]at Y
   obtain⟨y0,g0,y1,g1,y2,g2,y3,g3,y4,g4,y5,g5,y6,g6,y7,g7⟩:=Y
   have Y:=HN6.out.all
   simp only[Bk.A,Nat.reduceAdd,and_true]at Y
   obtain⟨z0,zf0,z1,zf1,z2,zf2,z3,zf3,z4,zf4,z5,zf5,z6,zf6,z7,zf7⟩:=Y
   go_wp2_with fail
   refine bodyPost_ret (v:=.agg #[.string ta,.string tb,.int .i64 0,.int .i64 t6,.bool false,.int .i64 0,.int .i64 0,.bool false]) (by simp[results,results201,go_sem,y0,y1,y2,y3,y4,y5,y6,y7,z0,z1,z2,z3,z4,z5,z6,z7,hLN,hNL]) rfl ?_
   rw[<-HP.out]
   refine⟨_,p6,er6,rfl,(((((((((H6.out.setOther hge2 hLR 3 _).setOther hge hnw 0 _).setOther hge hnw 1 _).setOther hge hnw 2 _).setOther hge hnw 3 _).setOther hge hnw 4 _).setOther hge hnw 5 _).setOther hge hnw 6 _).setOther hge hnw 7 _).eq (by rw[HQ.out];exact map_st (λt:Int=>(⟨ta,tb,0,t,false,Bin.zLm⟩:Im))),(((((((((HK6.out.setCell (p:=⟨L,3,none⟩) (.inr hnew) _).setCell (p:=⟨w.heap.size,0,none⟩) (.inr (zq _)) _).setCell (p:=⟨w.heap.size,1,none⟩) (.inr (zq _)) _).setCell (p:=⟨w.heap.size,2,none⟩) (.inr (zq _)) _).setCell (p:=⟨w.heap.size,3,none⟩) (.inr (zq _)) _).setCell (p:=⟨w.heap.size,4,none⟩) (.inr (zq _)) _).setCell (p:=⟨w.heap.size,5,none⟩) (.inr (zq _)) _).setCell (p:=⟨w.heap.size,6,none⟩) (.inr (zq _)) _).setCell (p:=⟨w.heap.size,7,none⟩) (.inr (zq _)) _),⟨⟨ta,tb,0,t6,false,⟨0,0,false⟩⟩,rfl⟩,λx q e=>?_⟩
   have e0:=e
   rw[HQ.out]at e
   obtain⟨z,hz,rfl⟩:=map_some (f:=λt:Int=>(⟨ta,tb,0,t,false,Bin.zLm⟩:Im)) e
   have f6:=i64_inj (HV6.out _ _ hz)
   subst f6
   obtain⟨s1,s2⟩:=im_got (HG.out _ _ e0)
   exact⟨⟨ta,tb,0,t6,false,Bin.zLm⟩,rfl,rfl,λ_ _=>⟨s1,s2,inI0,(by show inI t6;unfold inI;omega),⟨inI0,inI0⟩⟩⟩
  by_cases k1:tk=1
  ·
   subst k1
   obtain⟨r4,hr4⟩:∃r,((r3.map (·.2)).bind λq=>Bin.gTab bs q)=r:=⟨_,rfl⟩
   have HQ:=hid (HE2.out.trans (im_1 (a:=ta) (b:=tb) hr4))
   have HR4:=hid hr4
   clear hr4
   go_wp2_with fail
   refine(rtable_any HI.out.rst).mono ?_
   unfold RdQ
   rintro e w6 ⟨v6,p6,er6,rfl,h6,hk6,⟨l,hl,rfl⟩,hv6⟩
   rw[HR4.out]at h6 hv6
   have H6:=hid h6
   have HK6:=hid (HI.out.kx.trans hk6)
   have HL6:=hid (HI.out.cell.kx hk6)
   have HN6:=hid (HI.out.res.kx hk6)
   have HX6:=hid (hk6.cell (show¬X=R from hXR) HI.out.box)
   have HV6:=hid hv6
   clear h6 hk6 hv6 y2 hbx
   have HLo:=hid hl
   clear hl
   have Y:=HL6.out.all
   simp only[Bk.A,Nat.reduceAdd,and_true]at Y
   obtain⟨y0,g0,y1,g1,y2,g2,y3,g3,y4,g4,y5,g5,y6,g6,y7,g7⟩:=Y
   have Y:=HN6.out.all
   simp only[Bk.A,Nat.reduceAdd,and_true]at Y
   obtain⟨z0,zf0,z1,zf1,z2,zf2,z3,zf3,z4,zf4,z5,zf5,z6,zf6,z7,zf7⟩:=Y
   go_wp2_with fail
   refine bodyPost_ret (v:=.agg #[.string ta,.string tb,.int .i64 1,.int .i64 0,.bool false,.int .i64 l.mn,.int .i64 l.mx,.bool l.hs]) (by simp[results,results201,go_sem,y0,y1,y2,y3,y4,y5,y6,y7,z0,z1,z2,z3,z4,z5,z6,z7,hLN,hNL]) rfl ?_
   rw[<-HP.out]
   refine⟨_,p6,er6,rfl,(((((((((((H6.out.setOther hge2 hLR 5 _).setOther hge2 hLR 6 _).setOther hge2 hLR 7 _).setOther hge hnw 0 _).setOther hge hnw 1 _).setOther hge hnw 2 _).setOther hge hnw 3 _).setOther hge hnw 4 _).setOther hge hnw 5 _).setOther hge hnw 6 _).setOther hge hnw 7 _).eq (by rw[HQ.out];exact map_st (λl:Lm=>(⟨ta,tb,1,0,false,l⟩:Im))),(((((((((((HK6.out.setCell (p:=⟨L,5,none⟩) (.inr hnew) _).setCell (p:=⟨L,6,none⟩) (.inr hnew) _).setCell (p:=⟨L,7,none⟩) (.inr hnew) _).setCell (p:=⟨w.heap.size,0,none⟩) (.inr (zq _)) _).setCell (p:=⟨w.heap.size,1,none⟩) (.inr (zq _)) _).setCell (p:=⟨w.heap.size,2,none⟩) (.inr (zq _)) _).setCell (p:=⟨w.heap.size,3,none⟩) (.inr (zq _)) _).setCell (p:=⟨w.heap.size,4,none⟩) (.inr (zq _)) _).setCell (p:=⟨w.heap.size,5,none⟩) (.inr (zq _)) _).setCell (p:=⟨w.heap.size,6,none⟩) (.inr (zq _)) _).setCell (p:=⟨w.heap.size,7,none⟩) (.inr (zq _)) _),⟨⟨ta,tb,1,0,false,⟨l.mn,l.mx,l.hs⟩⟩,rfl⟩,λx q e=>?_⟩
   have e0:=e
   rw[HQ.out]at e
   obtain⟨z,hz,rfl⟩:=map_some (f:=λl:Lm=>(⟨ta,tb,1,0,false,l⟩:Im)) e
   have f6:l=z:=by have:=HV6.out _ _ hz;obtain⟨a1,a2,a3⟩:=l;obtain⟨b1,b2,b3⟩:=z;simp at this;simp[this]
   subst f6
   obtain⟨s1,s2⟩:=im_got (HG.out _ _ e0)
   exact⟨⟨ta,tb,1,0,false,l⟩,rfl,rfl,λ_ _=>⟨s1,s2,(by show inI 1;unfold inI;omega),inI0,HLo.out⟩⟩
  by_cases k2:tk=2
  ·
   subst k2
   obtain⟨r4,hr4⟩:∃r,((r3.map (·.2)).bind λq=>Bin.gLim bs q)=r:=⟨_,rfl⟩
   have HQ:=hid (HE2.out.trans (im_2 (a:=ta) (b:=tb) hr4))
   have HR4:=hid hr4
   clear hr4
   go_wp2_with fail
   refine(rlimits_any HI.out.rst).mono ?_
   unfold RdQ
   rintro e w6 ⟨v6,p6,er6,rfl,h6,hk6,⟨l,hl,rfl⟩,hv6⟩
   rw[HR4.out]at h6 hv6
   have H6:=hid h6
   have HK6:=hid (HI.out.kx.trans hk6)
   have HL6:=hid (HI.out.cell.kx hk6)
   have HN6:=hid (HI.out.res.kx hk6)
   have HX6:=hid (hk6.cell (show¬X=R from hXR) HI.out.box)
   have HV6:=hid hv6
   clear h6 hk6 hv6 y2 hbx
   have HLo:=hid hl
   clear hl
   have Y:=HL6.out.all
   simp only[Bk.A,Nat.reduceAdd,and_true]at Y
   obtain⟨y0,g0,y1,g1,y2,g2,y3,g3,y4,g4,y5,g5,y6,g6,y7,g7⟩:=Y
   have Y:=HN6.out.all
   simp only[Bk.A,Nat.reduceAdd,and_true]at Y
   obtain⟨z0,zf0,z1,zf1,z2,zf2,z3,zf3,z4,zf4,z5,zf5,z6,zf6,z7,zf7⟩:=Y
   go_wp2_with fail
   refine bodyPost_ret (v:=.agg #[.string ta,.string tb,.int .i64 2,.int .i64 0,.bool false,.int .i64 l.mn,.int .i64 l.mx,.bool l.hs]) (by simp[results,results201,go_sem,y0,y1,y2,y3,y4,y5,y6,y7,z0,z1,z2,z3,z4,z5,z6,z7,hLN,hNL]) rfl ?_
   rw[<-HP.out]
   refine⟨_,p6,er6,rfl,(((((((((((H6.out.setOther hge2 hLR 5 _).setOther hge2 hLR 6 _).setOther hge2 hLR 7 _).setOther hge hnw 0 _).setOther hge hnw 1 _).setOther hge hnw 2 _).setOther hge hnw 3 _).setOther hge hnw 4 _).setOther hge hnw 5 _).setOther hge hnw 6 _).setOther hge hnw 7 _).eq (by rw[HQ.out];exact map_st (λl:Lm=>(⟨ta,tb,2,0,false,l⟩:Im))),(((((((((((HK6.out.setCell (p:=⟨L,5,none⟩) (.inr hnew) _).setCell (p:=⟨L,6,none⟩) (.inr hnew) _).setCell (p:=⟨L,7,none⟩) (.inr hnew) _).setCell (p:=⟨w.heap.size,0,none⟩) (.inr (zq _)) _).setCell (p:=⟨w.heap.size,1,none⟩) (.inr (zq _)) _).setCell (p:=⟨w.heap.size,2,none⟩) (.inr (zq _)) _).setCell (p:=⟨w.heap.size,3,none⟩) (.inr (zq _)) _).setCell (p:=⟨w.heap.size,4,none⟩) (.inr (zq _)) _).setCell (p:=⟨w.heap.size,5,none⟩) (.inr (zq _)) _).setCell (p:=⟨w.heap.size,6,none⟩) (.inr (zq _)) _).setCell (p:=⟨w.heap.size,7,none⟩) (.inr (zq _)) _),⟨⟨ta,tb,2,0,false,⟨l.mn,l.mx,l.hs⟩⟩,rfl⟩,λx q e=>?_⟩
   have e0:=e
   rw[HQ.out]at e
   obtain⟨z,hz,rfl⟩:=map_some (f:=λl:Lm=>(⟨ta,tb,2,0,false,l⟩:Im)) e
   have f6:l=z:=by have:=HV6.out _ _ hz;obtain⟨a1,a2,a3⟩:=l;obtain⟨b1,b2,b3⟩:=z;simp at this;simp[this]
   subst f6
   obtain⟨s1,s2⟩:=im_got (HG.out _ _ e0)
   exact⟨⟨ta,tb,2,0,false,l⟩,rfl,rfl,λ_ _=>⟨s1,s2,(by show inI 2;unfold inI;omega),inI0,HLo.out⟩⟩
  by_cases k3:tk=3
  ·
   subst k3
   obtain⟨r4,hr4⟩:∃r,((r3.map (·.2)).bind λq=>Bin.gType bs q)=r:=⟨_,rfl⟩
   obtain⟨r5,hr5⟩:∃r,((r4.map (·.2)).bind λq=>Bin.gFlag bs q)=r:=⟨_,rfl⟩
   have HQ:=hid (im_3 (a:=ta) (b:=tb) hr4 hr5)
   rw[<-HE2.out]at HQ
   have HR4:=hid hr4
   have HR5:=hid hr5
   clear hr4 hr5
   go_wp2_with fail
   refine(rtype_any HI.out.rst).mono ?_
   unfold RdQ
   rintro e w6 ⟨v6,p6,er6,rfl,h6,hk6,⟨t6,rfl⟩,hv6⟩
   rw[HR4.out]at h6 hv6
   have H6:=hid h6
   have HK6:=hid (HI.out.kx.trans hk6)
   have HL6:=hid (HI.out.cell.kx hk6)
   have HN6:=hid (HI.out.res.kx hk6)
   have HX6:=hid (hk6.cell (show¬X=R from hXR) HI.out.box)
   have HV6:=hid hv6
   clear h6 hk6 hv6 y2 hbx
   have hx6:=HX6.out
   have y3:=HL6.out.cell 3 _ rfl
   have g3:=HL6.out.fr 3
   have hXL:X≠L:=by have h1:=HL6.out.cell 0 _ rfl;intro h;subst h;rw[hx6]at h1;cases h1
   have hLX:=Ne.symm hXL
   go_wp2_with fail
   obtain⟨W,hW⟩:∃W:World,W=w6.setCell ⟨L,3,none⟩ (.int .i64 t6):=⟨_,rfl⟩
   have HW:Hid (Rst R w0 W A c bs _ _ _):=hid (by rw[hW];exact H6.out.setOther hge2 hLR 3 _)
   have HKW:Hid (Kx (Only R) w W):=hid (by rw[hW];exact HK6.out.setCell (p:=⟨L,3,none⟩) (.inr hnew) _)
   have HLW:Hid (Bk R W L [.string ta,.string tb,.int .i64 3,.int .i64 t6,.bool false,.int .i64 0,.int .i64 0,.bool false]):=hid (by rw[hW];exact HL6.out.set 3 (.int .i64 t6) (by simp))
   have HNW:Hid (Bk R W w.heap.size _):=hid (by rw[hW];exact HN6.out.setOther hLN 3 _)
   rw[<-hW]
   clear hW y3 g3 hx6
   refine(rflag_any HW.out).mono ?_
   unfold RdQ
   rintro e w7 ⟨v7,p7,er7,rfl,h7,hk7,⟨u7,rfl⟩,hv7⟩
   rw[HR5.out]at h7 hv7
   have H7:=hid h7
   have HK7:=hid (HKW.out.trans hk7)
   have HL7:=hid (HLW.out.kx hk7)
   have HN7:=hid (HNW.out.kx hk7)
   have HV7:=hid hv7
   clear h7 hk7 hv7
   have Y:=HL7.out.all
   simp only[Bk.A,Nat.reduceAdd,and_true]at Y
   obtain⟨y0,g0,y1,g1,y2,g2,y3,g3,y4,g4,y5,g5,y6,g6,y7,g7⟩:=Y
   have Y:=HN7.out.all
   simp only[Bk.A,Nat.reduceAdd,and_true]at Y
   obtain⟨z0,zf0,z1,zf1,z2,zf2,z3,zf3,z4,zf4,z5,zf5,z6,zf6,z7,zf7⟩:=Y
   go_wp2_with fail
   refine bodyPost_ret (v:=.agg #[.string ta,.string tb,.int .i64 3,.int .i64 t6,.bool u7,.int .i64 0,.int .i64 0,.bool false]) (by simp[results,results201,go_sem,y0,y1,y2,y3,y4,y5,y6,y7,z0,z1,z2,z3,z4,z5,z6,z7,hLN,hNL]) rfl ?_
   rw[<-HP.out]
   refine⟨_,p7,er7,rfl,(((((((((H7.out.setOther hge2 hLR 4 _).setOther hge hnw 0 _).setOther hge hnw 1 _).setOther hge hnw 2 _).setOther hge hnw 3 _).setOther hge hnw 4 _).setOther hge hnw 5 _).setOther hge hnw 6 _).setOther hge hnw 7 _).eq HQ.out.1,(((((((((HK7.out.setCell (p:=⟨L,4,none⟩) (.inr hnew) _).setCell (p:=⟨w.heap.size,0,none⟩) (.inr (zq _)) _).setCell (p:=⟨w.heap.size,1,none⟩) (.inr (zq _)) _).setCell (p:=⟨w.heap.size,2,none⟩) (.inr (zq _)) _).setCell (p:=⟨w.heap.size,3,none⟩) (.inr (zq _)) _).setCell (p:=⟨w.heap.size,4,none⟩) (.inr (zq _)) _).setCell (p:=⟨w.heap.size,5,none⟩) (.inr (zq _)) _).setCell (p:=⟨w.heap.size,6,none⟩) (.inr (zq _)) _).setCell (p:=⟨w.heap.size,7,none⟩) (.inr (zq _)) _),⟨⟨ta,tb,3,t6,u7,⟨0,0,false⟩⟩,rfl⟩,λx q e=>?_⟩
   have e0:=e
   obtain⟨t,q1,u,e2,e3,rfl⟩:=HQ.out.2 x q e
   have f6:=i64_inj (HV6.out _ _ e2)
   have f7:u7=u:=by have:=HV7.out _ _ e3;injection this
   subst f6 f7
   have hy:=(HG.out _ _ e0).1
   obtain⟨s1,s2⟩:=im_got (HG.out _ _ e0)
   refine⟨⟨ta,tb,3,t6,u7,Bin.zLm⟩,rfl,rfl,λ_ _=>⟨s1,s2,(by show inI 3;unfold inI;omega),?_,⟨inI0,inI0⟩⟩⟩
   show inI t6
   simp only[Bin.pIm,Bin.cat,Bin.pImp,zp]at hy
   have hy2:=hy.2.2.2
   simp at hy2
   rcases Bin.type_of hy2.1 with⟨e,-⟩|⟨e,-⟩<;>rw[e]<;>unfold inI<;>omega
  have hn3:r3=none:=by
   cases hr:r3 with
   |none=>rfl
   |some y=>
    have h1:=HI.out.e3 y.1 y.2 hr
    have h2:=kind_le (HR3.out.trans hr)
    omega
  subst hn3
  have HQ:Hid (res=none):=hid HE2.out
  have q0:(tk==0)=false:=by simpa using k0
  have q1:(tk==1)=false:=by simpa using k1
  have q2:(tk==2)=false:=by simpa using k2
  have q3:(tk==3)=false:=by simpa using k3
  have H4:=hid HI.out.rst
  have HK4:=hid HI.out.kx
  have HL4:=hid HI.out.cell
  have HN4:=hid HI.out.res
  clear y2
  have Y:=HL4.out.all
  simp only[Bk.A,Nat.reduceAdd,and_true]at Y
  obtain⟨y0,g0,y1,g1,y2,g2,y3,g3,y4,g4,y5,g5,y6,g6,y7,g7⟩:=Y
  have Y:=HN4.out.all
  simp only[Bk.A,Nat.reduceAdd,and_true]at Y
  obtain⟨z0,zf0,z1,zf1,z2,zf2,z3,zf3,z4,zf4,z5,zf5,z6,zf6,z7,zf7⟩:=Y
  go_wp2_with fail
  refine bodyPost_ret (v:=.agg #[.string ta,.string tb,.int .i64 tk,.int .i64 0,.bool false,.int .i64 0,.int .i64 0,.bool false]) (by simp[results,results201,go_sem,y0,y1,y2,y3,y4,y5,y6,y7,z0,z1,z2,z3,z4,z5,z6,z7,hLN,hNL]) rfl ?_
  rw[<-HP.out]
  refine⟨_,p4,er4,rfl,((((((((H4.out.setOther hge hnw 0 _).setOther hge hnw 1 _).setOther hge hnw 2 _).setOther hge hnw 3 _).setOther hge hnw 4 _).setOther hge hnw 5 _).setOther hge hnw 6 _).setOther hge hnw 7 _).eq (by rw[HQ.out];rfl),((((((((HK4.out.setCell (p:=⟨w.heap.size,0,none⟩) (.inr (zq _)) _).setCell (p:=⟨w.heap.size,1,none⟩) (.inr (zq _)) _).setCell (p:=⟨w.heap.size,2,none⟩) (.inr (zq _)) _).setCell (p:=⟨w.heap.size,3,none⟩) (.inr (zq _)) _).setCell (p:=⟨w.heap.size,4,none⟩) (.inr (zq _)) _).setCell (p:=⟨w.heap.size,5,none⟩) (.inr (zq _)) _).setCell (p:=⟨w.heap.size,6,none⟩) (.inr (zq _)) _).setCell (p:=⟨w.heap.size,7,none⟩) (.inr (zq _)) _),⟨⟨ta,tb,tk,0,false,⟨0,0,false⟩⟩,rfl⟩,λx q e=>?_⟩
  rw[HQ.out]at e
  cases e
end
end Go.Proofs.YteoijlfipmaoeaaGreatDoor
