import Derived.Test.YteoijlfipmaoeaaGreatDoorPJ27
set_option linter.unusedVariables false
set_option linter.unusedSimpArgs false
set_option maxRecDepth 100000
set_option maxHeartbeats 32000000
namespace Go.Proofs.YteoijlfipmaoeaaGreatDoor
open Lib (hid)
open Go.RowKit Trx
open Go.Proofs.Tryz
theorem sClone_any(A:Option Addr)(c n:Nat)(bs:List UInt8)(w:World)(hn:bs.length=n)(hs:Sl w w.heap.size A (u8s bs))(hl:bs.length<=100000000):
  Calls prog 195 #[.slice A n c] w λe w'=>∃A' c',e=.returned (.slice A' n c')/\OwB w w' (.slice A' n c') bs:=by
 subst hn
 cases A with
 |none=>
  have hb:bs=[]:=by
   rcases Classical.em (bs=[])with h|h
   ·exact h
   ·
    obtain⟨_,_,e,_⟩:=hs (λe=>h (by have:=congrArg List.length e;rw[u8s_length]at this;exact zc this))
    cases e
  subst hb
  have he:=Lib.run_eql_slice_nil_nil (P:=prog) w 0 c underlying35
  go_enter func195,ntmps195
  go_wp2_with fail
  go_ret
  exact⟨none,0,rfl,OwnK.nil_ _ _ _ _ (zx _ _) (zq _)⟩
 |some a=>
  have HS:=hid hs
  have he:=Lib.run_eql_slice_some_nil (P:=prog) w a bs.length c underlying35
  clear hs
  go_enter func195,ntmps195
  go_wp2_with(first
   |(at_builtin;refine wpl_bytes rfl (.tmp 5) (.tmp 6) rfl bs rfl (OwB.litS w [] (by decide) _ rfl) rfl (HS.out.below ((zx _ _).alloc (zq _) _)) rfl (by simp;omega) ?_;intro v1 w2 ho2 hk2;rw[qx]at ho2;have HO2:=hid ho2;clear ho2 hk2))
  go_ret
  obtain⟨A',c',rfl,-,-,-⟩:=OwnK.form HO2.out
  rw[ones_length,u8s_length]
  exact⟨A',c',rfl,by simpa using HO2.out⟩
theorem OwB.bl{w w':World}{A:Option Addr}{n c:Nat}{bs:List UInt8}(h:OwB w w' (.slice A n c) bs)(hn:bs.length=n)(hl:bs.length<=RB):FrK BL.ok (Win w.heap.size w') w' ⟨bs,A,c⟩:=by
 have ho:OwnK w.heap.size w w' 5 1 (.slice A n c) (bs.map λx:UInt8=>([.int .u8 (x.toNat:Int)]:List Value)):=by rw[<-u8_rows];exact h
 obtain⟨A2,c2,e,h1,h2,h3⟩:=ho.self.fr (by decide)
 injection e with e1 e2 e3
 subst e1 e3
 exact λw2 ha=>⟨h1,h2,hl,RowsAt.sl (by rw[u8_rows];exact h3 w2 ha)⟩
theorem Rst.move{R:Nat}{w0 w:World}{A:Option Addr}{c:Nat}{bs:List UInt8}{st:Option Nat}{p:Nat}{er:Value}(h:Rst R w0 w A c bs st p er){q:Nat}(hq:q<=bs.length):Rst R w0 (w.setCell ⟨R,1,none⟩ (.int .i64 q)) A c bs (st.map λ_=>q) q er:=by
 refine⟨h.hR,(zk _ _ _ _ (by simp)).trans h.c0,ze _ _ _ h.c1,(zk _ _ _ _ (by simp)).trans h.c2,λi=>(za _ _ _ _).trans (h.fr i),h.sl,h.hc,h.hm,hq,h.bel.setCell h.hR _,?_⟩
 rcases h.lk with⟨h1,h2⟩|⟨h1,h2⟩
 ·exact .inl ⟨by rw[h1];rfl,h2⟩
 ·exact .inr ⟨by rw[h1];rfl,h2⟩
@[reducible] def Mk(R Mb lo:Nat):Nat->Prop:=λb=>b=R\/b=Mb\/lo<=b
def MdQ(R Mb lo:Nat)(w:World)(tl:IL)(res:Option (Bin.Dm×Nat)):Option Nat->World->Prop:=λst' w2=>st'=res.map (·.2)/\Kx (Mk R Mb lo) w w2/\∀y q,res=some (y,q)->∃m':Mo,Bk R w2 Mb m'.cells/\DmP lo w2 y m' tl
theorem OwnK.kxo{M:Nat->Prop}{B:Nat}{w w':World}{e:TypeId}{k:Nat}{v:Value}{rs:List (List Value)}(h:OwnK B w w e k v rs)(hk:Kx M w w')(hM:∀g,v.ownBlock=some g->¬M g):OwnK B w' w' e k v rs:=by
 refine⟨⟨h.row.1,?_⟩,h.len,zx _ _,zy h.le hk.size⟩
 rcases h.row.2 with⟨rfl,hn⟩|⟨g,cap,cur,rfl,hg,hcur,hrest⟩
 ·exact .inl ⟨rfl,hn⟩
 ·
  refine .inr ⟨g,cap,cur,rfl,hg,?_,hrest⟩
  have hlt:g<w.heap.size:=by
   rcases qm g w.heap.size with h1|h1
   ·exact h1
   ·rw[qi h1]at hcur;cases hcur
  rw[hk.block g hlt (hM g rfl)];exact hcur
theorem DmP.pushCu{lo:Nat}{W w':World}{d:Bin.Dm}{m:Mo}{tl:IL}{x:Cu}{v:Value}(h:DmP lo W d m tl)(hx:FrK Cu.ok (Sp lo W m.cu.v m.fn.v) W x)(h64:m.cu.l.length<64)(ho:OwnK lo W w' 48 2 v (m.cu.l.map Cu.cells++[x.cells]))
  (hk:∀g,g<W.heap.size->m.cu.v.ownBlock≠some g->w'.heap[g]? =W.heap[g]?/\v.ownBlock≠some g) (hs:W.heap.size<=w'.heap.size):∃A c,v=.slice A (m.cu.l.length+1) c/\DmP lo w' {d with cu:=d.cu++[kCu x]} {m with cu:=⟨m.cu.l++[x],A,c⟩} tl:=by
 have hkx:Kx (λb=>m.cu.v.ownBlock=some b) W w':=⟨ho.below.os,ho.below.tape,ho.below.output,hs,λb hb hm=>(hk b hb hm).1⟩
 have ho2:OwnK lo W w' 48 2 v ((m.cu.l++[x]).map Cu.cells):=by rw[qd];exact ho
 obtain⟨A,c,e,-,-,-⟩:=ho2.self.fr (by decide)
 rw[zz,qg]at e
 refine⟨A,c,e,?_⟩
 subst e
 have hc:∀b,b<W.heap.size->(Value.slice A (m.cu.l.length+1) c).ownBlock=some b->m.cu.v.ownBlock=some b:=λb hb e=>by
  rcases Classical.em (m.cu.v.ownBlock=some b)with h1|h1
  ·exact h1
  ·exact absurd e (hk b hb h1).2
 have hO:DmO (Sp lo w' (.slice A (m.cu.l.length+1) c) m.fn.v) w' m tl:=h.o.mv λhm hx=>hx.sp hm hkx (λb hb=>.inr (.inl hb)) hc (λ_ _ e=>e)
 have hlen:(m.cu.l++[x]).length=m.cu.l.length+1:=by simp
 have hv:(⟨m.cu.l++[x],A,c⟩:SL Cu).v=.slice A (m.cu.l.length+1) c:=by show Value.slice A (m.cu.l++[x]).length c=_;rw[hlen]
 refine⟨?_,?_,h.fn.kxo hkx (λg hg e=>h.dj g e hg),λg hg e=>?_,by show(m.cu.l++[x]).length<=64;omega,h.fl,by rw[<-h.key];simp[kD]⟩
 ·
  show DmO (Sp lo w' (⟨m.cu.l++[x],A,c⟩:SL Cu).v m.fn.v) w' _ tl
  rw[hv]
  refine⟨hO.ty,hO.im,hO.ta,hO.me,hO.gl,hO.ex,hO.st,hO.el,hO.da,λy hy=>?_,hO.fn,hO.tl⟩
  rcases List.mem_append.1 hy with hy|hy
  ·exact hO.cu y hy
  ·
   simp at hy
   subst hy
   exact hx.sp Cu.ok.more hkx (λb hb=>.inr (.inl hb)) hc (λ_ _ e=>e)
 ·
  show OwnK lo w' w' 48 2 (⟨m.cu.l++[x],A,c⟩:SL Cu).v _
  rw[hv]
  exact ho2.self
 ·
  have hg:(⟨m.cu.l++[x],A,c⟩:SL Cu).v.ownBlock=some g:=hg
  rw[hv]at hg
  have h2:=(h.fn.own_lt e).2
  exact h.dj g (hc g h2 hg) e
theorem elem_Cug:ElemK prog 48 2 40:=ElemK.mk_ (z:=.agg #[.string ⟨#[]⟩,.slice none 0 0]) (by kernel_rfl) rfl
theorem cu_eq{st:Option Nat}{bs:List UInt8}{n:Nat}{r:Option (ByteArray×Nat)}(h:(st.bind λq=>Bin.gName bs q)=r):(st.bind λq=>Bin.gCu n bs q)=r.bind λx=>if bs.length-x.2<=4096/\n≠64 then some ((x.1,bs.drop x.2),bs.length)else none:=by
 unfold Bin.gCu
 rw[res_of h]
theorem mcus{m:Mo}{d:Bin.Dm}{lo:Nat}{w:World}{tl:IL}(h:DmP lo w d m tl):d.cu.length=m.cu.l.length:=by rw[<-h.key];simp[kD]
section
variable{R:Nat}{w0 w:World}{A:Option Addr}{c:Nat}{bs:List UInt8}{st:Option Nat}{p:Nat}{er:Value}
theorem rcustom_any{Mb lo:Nat}{d:Bin.Dm}{m:Mo}{tl:IL}(hU:U8T w0)(hE:Et w0)(h:Rst R w0 w A c bs st p er)(hlen:bs.length<=100000000)(hB:Bk R w Mb m.cells)(hD:DmP lo w d m tl)(hRlo:R<lo)(hMlo:Mb<lo)(hge:w0.heap.size<=Mb):
  Calls prog 134 #[pR R,.pointer (some ⟨Mb,0,none⟩)] w λe w2=>e=.returned (.tuple #[])/\∃st' p' er',Rst R w0 w2 A c bs st' p' er'/\MdQ R Mb lo w tl (st.bind λq=>(Bin.bnd (Bin.gCu d.cu.length) λx=>Bin.ret {d with cu:=d.cu++[x]}) bs q) st' w2:=by
 obtain⟨r1,hr1⟩:∃r,(st.bind λq=>Bin.gName bs q)=r:=⟨_,rfl⟩
 have HR1:=hid hr1
 have hcl:=mcus hD
 have HE:=hid (show(st.bind λq=>(Bin.bnd (Bin.gCu d.cu.length) λx=>Bin.ret {d with cu:=d.cu++[x]}) bs q)=(r1.bind λx=>if bs.length-x.2<=4096/\d.cu.length≠64 then some ((x.1,bs.drop x.2),bs.length)else none).map λx=>({d with cu:=d.cu++[x.1]},x.2)from by
  rw[res_of (cu_eq hr1)]
  cases(r1.bind λx=>if bs.length-x.2<=4096/\d.cu.length≠64 then some ((x.1,bs.drop x.2),bs.length)else none)<;>rfl)
 obtain⟨res,hres⟩:∃res,(st.bind λq=>(Bin.bnd (Bin.gCu d.cu.length) λx=>Bin.ret {d with cu:=d.cu++[x]}) bs q)=res:=⟨_,rfl⟩
 rw[hres]at HE⊢
 rw[hcl]at HE
 have HGn:=hid (λx q (e:r1=some (x,q))=>h.got Bin.name_got (hr1.trans e))
 refine postL λP hP=>?_
 have HP:=hid hP
 have HA:=hid h
 have HB:=hid hB
 have HD:=hid hD
 have HU:=hid hU
 have HEt:=hid hE
 have hc1:=h.c1
 have hMR:=hB.ne
 have hlw:=hD.lo_le
 have hml:=hD.cl
 clear hP hr1 hres h hB hD hU hE
 go_enter func134,ntmps134
 go_wp2_with fail
 refine(rname_any HU.out HEt.out HA.out).mono ?_
 unfold RdS8 RdQ
 rintro e w1 ⟨v1,p1,er1,rfl,h1,hk1,⟨t1,rfl⟩,hv1⟩
 rw[HR1.out]at h1 hv1
 have H1:=hid h1
 have HK1:=hid hk1
 have HB1:=hid (HB.out.kx hk1)
 have HV1:=hid (λx q e=>(show t1=x from(by have:=hv1 x q e;injection this)))
 have hq1:∀x q,r1=some (x,q)->q=p1:=λx q e=>by
  have:=h1.lk
  rw[e]at this
  rcases this with⟨h,-⟩|⟨h,-⟩
  ·injection h
  ·cases h
 have HQ1:=hid hq1
 have hR1:=h1.lt
 have hs1:w.heap.size<=w1.heap.size:=hk1.size
 have d0:=h1.c0
 have d1:=h1.c1
 have hp1:=h1.hp
 have hcc:=h1.hc
 have hcm:=h1.hm
 unfold maxLen at hcm
 obtain⟨Cb,hCb⟩:∃n:Nat,n=w1.heap.size:=⟨_,rfl⟩
 obtain⟨W1,hW1⟩:∃W:World,W=(w1.alloc (.cells #[.string t1,.slice none 0 0] 48)).drew:=⟨_,rfl⟩
 have HD1:Hid (Rst R w0 W1 A c bs (r1.map (·.2)) p1 er1):=hid (by rw[hW1];exact(h1.alloc _).drewN 1)
 have HKD:Hid (Kx (Only R) w W1):=hid (by rw[hW1];exact(hk1.alloc _).drewN 1)
 have HCD:Hid (Bk R W1 Cb [.string t1,.slice none 0 0]):=hid (by rw[hW1];exact(Bk.new h1.lt #[.string t1,.slice none 0 0] 48 _ hCb rfl).kx (Kx.refl_.drewN 1))
 have HMD:Hid (Bk R W1 Mb m.cells):=hid (by rw[hW1];exact(HB1.out.alloc _).kx (Kx.refl_.drewN 1))
 have hCR:Cb≠R:=HCD.out.ne
 have hCM:Cb≠Mb:=by rw[hCb];have:=HB1.out.lt;omega
 have hMC:=Ne.symm hCM
 have hCw:w.heap.size<=Cb:=by omega
 have hwr:IntKind.i64.wrap ((bs.length:Int)-(p1:Int))=(bs.length:Int)-(p1:Int):=by rw[IntWalk.i64_left];unfold wrap64;omega
 have hSl:=hid (λ(W:World) (hb:Rst R w0 W A c bs (r1.map (·.2)) p1 er1\/True)=>hb)
 clear h1 hk1 hv1 hq1 hc1 hSl
 go_wp2_with fail
 have u0:=HD1.out.c0
 have u1:=HD1.out.c1
 refine wp_region_held_drew (S:=λw'=>w'.cell? ⟨R,0,none⟩=some (.slice A bs.length c)/\w'.cell? ⟨R,1,none⟩=some (.int .i64 p1)) (by kernel_rfl) (by rw[<-hW1];exact⟨u0,u1⟩) (λhHeld=>?_)
 rw[<-hW1]at hHeld
 rw[<-hW1,<-hCb]
 clear hW1 hCb
 refine rtk 0 13 ?_
 refine rtk 1 14 ?_
 refine rtk 2 15 ?_
 refine rtk 3 16 ?_
 refine rtk 4 17 ?_
 refine rtk 5 18 ?_
 refine rtk 6 19 ?_
 refine rtk 7 20 ?_
 refine rtk 8 21 ?_
 refine rtk 9 22 ?_
 refine rtk 10 23 ?_
 refine wpAnyH_done (by kernel_rfl) ?_ _
 clear hHeld
 have m10:=HMD.out.cell 10 _ rfl
 by_cases hb1:(bs.length:Int)-(p1:Int)>4096
 rotate_left 1
 focus
  have hb3:(bs.length:Int)-(p1:Int)<=4096:=by omega
  have hb4:¬(4096:Int)<(bs.length:Int)-(p1:Int):=by omega
  have hb5:decide ((4096:Int)<(bs.length:Int)-(p1:Int))=false:=by simp;omega
 rotate_right 1
 focus
  go_wp2_with fail
  refine(rfail_any (p1:Int) 7 HD1.out).mono ?_
  rintro e W1 ⟨rfl,er1,h4,hk4⟩
  have HD1:=hid h4
  have HKD:=hid (HKD.out.trans hk4)
  have HCD:=hid (HCD.out.kx hk4)
  have HMD:=hid (HMD.out.kx hk4)
  have m10_:=HMD.out.cell 10 _ rfl
  clear h4 hk4
 all_goals by_cases hb2:m.cu.l.length=64
 rotate_left 3
 focus
  have q2:((m.cu.l.length:Int)==64)=false:=by simp;omega
  have HRes:Hid (res=r1.map λ_=>({d with cu:=d.cu++[(t1,bs.drop p1)]},bs.length)):=hid (by
   rw[HE.out]
   cases hr:r1 with
   |none=>rfl
   |some x=>
    have h1:=HQ1.out x.1 x.2 hr
    have h2:=HV1.out x.1 x.2 hr
    rw[Option.bind_some,if_pos (by constructor<;>omega),h1,<-h2]
    rfl)
 rotate_right 3
 rotate_left 1
 focus
  have q2:((m.cu.l.length:Int)==64)=false:=by simp;omega
  have HRes:Hid (res=none):=hid (by
   rw[HE.out]
   cases hr:r1 with
   |none=>rfl
   |some x=>
    have:=HQ1.out x.1 x.2 hr
    rw[Option.bind_some,if_neg (by rintro⟨h1,h2⟩;omega)]
    rfl)
 rotate_right 1
 focus
  have q2:((m.cu.l.length:Int)==64)=true:=by simp;omega
  have HRes:Hid (res=none):=hid (by
   rw[HE.out]
   cases hr:r1 with
   |none=>rfl
   |some x=>
    have:=HQ1.out x.1 x.2 hr
    rw[Option.bind_some,if_neg (by rintro⟨h1,h2⟩;omega)]
    rfl)
  go_wp2_with fail
  refine(rfail_any (p:Int) 7 HD1.out).mono ?_
  rintro e W1 ⟨rfl,er1,h4,hk4⟩
  have HD1:=hid h4
  have HKD:=hid (HKD.out.trans hk4)
  have HCD:=hid (HCD.out.kx hk4)
  have HMD:=hid (HMD.out.kx hk4)
  have m10_:=HMD.out.cell 10 _ rfl
  clear h4 hk4
 rotate_left 2
 focus
  have q2:((m.cu.l.length:Int)==64)=true:=by simp;omega
  have HRes:Hid (res=none):=hid (by
   rw[HE.out]
   cases hr:r1 with
   |none=>rfl
   |some x=>
    have:=HQ1.out x.1 x.2 hr
    rw[Option.bind_some,if_neg (by rintro⟨h1,h2⟩;omega)]
    rfl)
  go_wp2_with fail
  refine(rfail_any (p:Int) 7 HD1.out).mono ?_
  rintro e W1 ⟨rfl,er1,h4,hk4⟩
  have HD1:=hid h4
  have HKD:=hid (HKD.out.trans hk4)
  have HCD:=hid (HCD.out.kx hk4)
  have HMD:=hid (HMD.out.kx hk4)
  have m10_:=HMD.out.cell 10 _ rfl
  clear h4 hk4
 rotate_right 2
 all_goals
  go_wp2_with fail
  have a0:=HD1.out.c0
  have a1:=HD1.out.c1
  refine wp_region_held_drew (S:=λw'=>w'.cell? ⟨R,0,none⟩=some (.slice A bs.length c)/\w'.cell? ⟨R,1,none⟩=some (.int .i64 p1)) (by kernel_rfl) ⟨a0,a1⟩ (λhHeld=>?_)
  obtain⟨W6,hW6⟩:∃W6:World,W6=W1.drew:=⟨_,rfl⟩
  have H6:Hid (Rst R w0 W6 A c bs _ p1 er1):=hid (by rw[hW6];exact HD1.out.drewN 1)
  have HK6:Hid (Kx (Only R) w W6):=hid (by rw[hW6];exact HKD.out.drewN 1)
  have HC6:Hid (Bk R W6 Cb _):=hid (by rw[hW6];exact HCD.out.kx (Kx.refl_.drewN 1))
  have HM6:Hid (Bk R W6 Mb m.cells):=hid (by rw[hW6];exact HMD.out.kx (Kx.refl_.drewN 1))
  rw[<-hW6]at hHeld⊢
  clear hW6 a0 a1
  refine rtk 0 39 ?_
  refine rtk 1 40 ?_
  refine rtk 2 41 ?_
  refine rtk 3 42 ?_
  refine rtk 4 43 ?_
  refine rtk 5 44 ?_
  refine rtk 6 45 ?_
  refine rtk 7 46 ?_
  refine rtk 8 47 ?_
  refine rcl 9 λK hK=>?_
  go_simp
  have hsl:Sl W6 W6.heap.size (if c=p1 then A else A.map (·.add p1)) (u8s (bs.drop p1)):=by
   have:=((H6.out.sl.below H6.out.bel).more H6.out.bel.size).drop (k:=p1) (cap:=c) (by simpa using hcc)
   rw[show(u8s bs).drop p1=u8s (bs.drop p1)from by simp[u8s,List.map_drop]]at this
   exact this
  refine(sClone_any _ _ (bs.length-p1) (bs.drop p1) _ (by simp) hsl (by simp;omega)).mono ?_
  rintro e w7 ⟨A7,c7,rfl,ho7⟩
  have hb7:=ho7.below
  have H7:=hid (H6.out.later hb7)
  have HK7:=hid (HK6.out.trans (.of_below hb7))
  have HC7:=hid (HC6.out.kx (.of_below hb7))
  have HM7:=hid (HM6.out.kx (.of_below hb7))
  have HS7:=hid (show W6.heap.size<=w7.heap.size/\Cb<W6.heap.size/\w.heap.size<=W6.heap.size from⟨hb7.size,HC6.out.lt,HK6.out.size⟩)
  have HBL:=hid (ho7.bl (by simp) (by simp;unfold RB;omega))
  clear ho7 hb7 hsl
  go_wp2_with fail
  all_goals
   have e0:=H7.out.c0
   have e1:=H7.out.c1
   have f1:=H7.out.fr 1
   refine rbk hK ⟨e0,e1⟩ λhHeld=>?_;clear hK K
   refine rtk 10 49 ?_
   have y0:=HC7.out.cell 0 _ rfl
   have y1:=HC7.out.cell 1 _ rfl
   have g1:=HC7.out.fr 1
   refine rcl 11 λK hK=>?_
   go_simp
   refine rbk hK ⟨(zk _ _ _ _ (by simp[hCR,Ne.symm hCR])).trans e0,(zk _ _ _ _ (by simp[hCR,Ne.symm hCR])).trans e1⟩ λhHeld=>?_;clear hK K
   refine wpAnyH_done (by kernel_rfl) ?_ _
   clear hHeld
   have hRC:R≠Cb:=Ne.symm hCR
   go_wp2_with fail
   obtain⟨W8,hW8⟩:∃W8:World,W8=((w7.setCell ⟨Cb,1,none⟩ (.slice A7 (bs.length-p1) c7)).setCell ⟨R,1,none⟩ (.int .i64 (bs.length:Int))).drew:=⟨_,rfl⟩
   have H8:Hid (Rst R w0 W8 A c bs _ bs.length er1):=hid (by rw[hW8];exact(((H7.out.setOther (by omega) hCR 1 _).move (zq _)).drewN 1))
   have HK8:Hid (Kx (Only R) w W8):=hid (by rw[hW8];exact(((HK7.out.setCell (p:=⟨Cb,1,none⟩) (.inr hCw) _).setCell (p:=⟨R,1,none⟩) (.inl rfl) _).drewN 1))
   have HC8:Hid (Bk R W8 Cb [.string t1,.slice A7 (bs.length-p1) c7]):=hid (by rw[hW8];exact((HC7.out.set 1 _ (by simp)).setOther hRC 1 _).kx (Kx.refl_.drewN 1))
   have HM8:Hid (Bk R W8 Mb m.cells):=hid (by rw[hW8];exact((HM7.out.setOther hCM 1 _).setOther (Ne.symm hMR) 1 _).kx (Kx.refl_.drewN 1))
   have HB8:Hid (FrK BL.ok (Win W6.heap.size w7) W8 ⟨bs.drop p1,A7,c7⟩/\w7.heap.size<=W8.heap.size):=hid (by
    rw[hW8]
    exact⟨HBL.out.kxm (M:=λb=>b=Cb\/b=R) BL.ok.more ((((Kx.refl_ (M:=λb=>b=Cb\/b=R)).setCell (p:=⟨Cb,1,none⟩) (.inl (.inl rfl)) _).setCell (p:=⟨R,1,none⟩) (.inl (.inr rfl)) _).drewN 1) (λb hb=>⟨hb.2,by have h1:=hb.1;have h2:=HS7.out;rintro(e|e)<;>omega⟩) (λ_ h=>h),by simp[World.drewN]⟩)
   have z0:=HC8.out.cell 0 _ rfl
   have z1:=HC8.out.cell 1 _ rfl
   have m10:=HM8.out.cell 10 _ rfl
   have mf:=HM8.out.fr 10
   refine wp_region_held_drew (S:=λw'=>w'.cell? ⟨Cb,0,none⟩=some (.string t1)/\w'.cell? ⟨Cb,1,none⟩=some (.slice A7 (bs.length-p1) c7)) (by kernel_rfl) (by rw[<-hW8];exact⟨z0,z1⟩) (λhHeld=>?_)
   rw[<-hW8]at hHeld⊢
   clear hW8 e0 e1 f1 y0 y1 g1
   have hCl:=HC8.out.lt
   have hMl:=HM8.out.lt
   have HDA:Hid (∀Wa:World,Wa=W8.alloc (.cells #[.string t1,.slice A7 (bs.length-p1) c7] 48)->DmP lo Wa d m tl):=hid (λWa e=>by rw[e];exact HD.out.kx (HK8.out.alloc _) (by rintro b rfl;exact hRlo))
   refine rtk 0 58 ?_
   refine rtk 1 59 ?_
   refine rtk 2 60 ?_
   refine rtk 3 61 ?_
   refine rtk 5 63 ?_
   refine wpAnyH_ready (rs:=[4,6]) (by kernel_rfl) (by simp) ?_
   refine AllReadyH.cons rfl (λK hK=>?_) (AllReadyH.cons rfl (λK hK=>?_) AllReadyH.nil)
   focus
    go_simp
    refine rbk hK ⟨z0,z1⟩ λhHeld=>?_;clear hK K
    refine rcl 6 λK hK=>?_
    go_simp
    refine rbk hK ⟨(zg _ _ _ hCl).trans z0,(zg _ _ _ hCl).trans z1⟩ λhHeld=>?_;clear hK K
   rotate_left
   focus
    go_simp
    refine rbk hK ⟨(zg _ _ _ hCl).trans z0,(zg _ _ _ hCl).trans z1⟩ λhHeld=>?_;clear hK K
    refine rcl 4 λK hK=>?_
    go_simp
    refine rbk hK ⟨(zg _ _ _ hCl).trans z0,(zg _ _ _ hCl).trans z1⟩ λhHeld=>?_;clear hK K
   all_goals
    obtain⟨Wa,hWa⟩:∃Wa:World,Wa=W8.alloc (.cells #[.string t1,.slice A7 (bs.length-p1) c7] 48):=⟨_,rfl⟩
    have hDa:=HDA.out Wa hWa
    have HCa:Hid (Bk R Wa W8.heap.size [.string t1,.slice A7 (bs.length-p1) c7]):=hid (by rw[hWa];exact Bk.new H8.out.lt #[.string t1,.slice A7 (bs.length-p1) c7] 48 _ rfl rfl)
    have Hca:Hid (Bk R Wa Cb [.string t1,.slice A7 (bs.length-p1) c7]):=hid (by rw[hWa];exact HC8.out.alloc _)
    have HMa:Hid (Bk R Wa Mb m.cells):=hid (by rw[hWa];exact HM8.out.alloc _)
    have Ha:Hid (Rst R w0 Wa A c bs _ bs.length er1):=hid (by rw[hWa];exact H8.out.alloc _)
    have HKa:Hid (Kx (Only R) w Wa):=hid (by rw[hWa];exact HK8.out.alloc _)
    have HBa:Hid (FrK BL.ok (Win W6.heap.size w7) Wa ⟨bs.drop p1,A7,c7⟩/\w7.heap.size<=Wa.heap.size):=hid (by rw[hWa];exact⟨HB8.out.1.kxm (M:=λ_=>False) BL.ok.more (Kx.refl_.alloc _) (λb hb=>⟨zj hb.2 HB8.out.2,λh=>h⟩) (λ_ h=>h),zy HB8.out.2 (by simp)⟩)
    rw[<-hWa]at hHeld⊢
    clear hWa
    refine rcl 7 λK hK=>?_
    refine wanted_yes' (by rfl) ?_
    refine op_pushK (.tmp 62) (.tmp 64) _ rfl 40 underlying30 elem_Cug (by decide) [.string t1,.slice A7 (bs.length-p1) c7] 1 W8.heap.size rfl hDa.cu rfl rfl (λk u hk=>HCa.out.cell k u hk) (by intro u hu;simp at hu;rcases hu with rfl|rfl<;>rfl) (by rw[zd];omega) (by rw[zd];unfold maxLen;omega) ?_
    intro v9 w9 ho9 hk9 hs9
    obtain⟨A9,c9,e9,-,-,-⟩:=ho9.form
    rw[zz,zd,qg]at e9
    subst e9
    have hown:∀g,m.cu.v.ownBlock=some g->w.heap.size<=g\/(lo<=g/\g<w.heap.size):=λg hg=>by have:=(hDa.cu.own_lt hg).1;omega
    have hoC:m.cu.v.ownBlock≠some Cb:=λe=>by have:=(HD.out.cu.own_lt e).2;omega
    have hoM:m.cu.v.ownBlock≠some Mb:=λe=>by have:=(hDa.cu.own_lt e).1;omega
    have hoR:m.cu.v.ownBlock≠some R:=λe=>by have:=(hDa.cu.own_lt e).1;omega
    have HKc:Hid (Kx (λb=>m.cu.v.ownBlock=some b) Wa w9):=hid ⟨ho9.below.os,ho9.below.tape,ho9.below.output,hs9,λb hb hm=>(hk9 b hb hm).1⟩
    have H9:Hid (Rst R w0 w9 A c bs _ bs.length er1):=hid (Ha.out.kx HKc.out hoR (λb hb=>by have:=(hDa.cu.own_lt hb).1;omega))
    have Hc9:=hid (Hca.out.kxm HKc.out hoC)
    have HM9:=hid (HMa.out.kxm HKc.out hoM)
    have HK9:Hid (Kx (Mk R Mb lo) w w9):=hid ((HKa.out.mono (M':=Mk R Mb lo) λb hb=>.inl hb).trans' HKc.out (λb hb=>.inl (.inr (.inr (hDa.cu.own_lt hb).1))))
    have HPu:=hid (λhx h64=>hDa.pushCu (x:=⟨t1,⟨bs.drop p1,A7,c7⟩⟩) hx h64 (by rw[show Cu.cells ⟨t1,⟨bs.drop p1,A7,c7⟩⟩=[.string t1,.slice A7 (bs.length-p1) c7]from by simp[Cu.cells,BL.v]];exact ho9) hk9 hs9)
    have HXa:=hid (λ(hs:StrOk t1)=>(show FrK Cu.ok (Sp lo Wa m.cu.v m.fn.v) Wa ⟨t1,⟨bs.drop p1,A7,c7⟩⟩from λw2 ha=>⟨hs,HBa.out.1 w2 λb o hb=>ha b o ⟨by have:=hb.1;have:=HS7.out;omega,by have:=hb.2;have:=HBa.out.2;omega,λe=>by have:=(HD.out.cu.own_lt e).2;have:=hb.1;have:=HS7.out;omega,λe=>by have:=(HD.out.fn.own_lt e).2;have:=hb.1;have:=HS7.out;omega⟩⟩))
    have s0:=Hc9.out.cell 0 _ rfl
    have s1:=Hc9.out.cell 1 _ rfl
    have n10:=HM9.out.cell 10 _ rfl
    have nf:=HM9.out.fr 10
    clear ho9 hk9 hs9 hown
    refine rbk hK ⟨s0,s1⟩ λhHeld=>?_;clear hK K
    refine rtk 8 66 ?_
    refine rtk 9 67 ?_
    refine rcl 10 λK hK=>?_
    go_simp
    have s2:=λx=>(zk w9 ⟨Mb,10,none⟩ ⟨Cb,0,none⟩ x (by simp[hCM,hMC])).trans s0
    have s3:=λx=>(zk w9 ⟨Mb,10,none⟩ ⟨Cb,1,none⟩ x (by simp[hCM,hMC])).trans s1
    refine rbk hK ⟨s2 _,s3 _⟩ λhHeld=>?_;clear hK K
    refine wpAnyH_done (by kernel_rfl) ?_ _
    clear hHeld
    go_wp2_with fail
    go_end0
    rw[<-HP.out]
    first|exact⟨rfl,_,bs.length,er1,H9.out.setOther hge hMR 10 _,by rw[HRes.out];rfl,HK9.out.setCell (p:=⟨Mb,10,none⟩) (.inl (.inr (.inl rfl))) _,λy q e=>(by rw[HRes.out]at e;cases e)⟩|skip
    all_goals
     refine⟨rfl,_,bs.length,er1,H9.out.setOther hge hMR 10 _,?_,HK9.out.setCell (p:=⟨Mb,10,none⟩) (.inl (.inr (.inl rfl))) _,λy q e=>?_⟩
     ·rw[HRes.out];cases r1<;>rfl
     ·
      rw[HRes.out]at e
      obtain⟨z,hz,rfl⟩:=map_some (f:=λ_:ByteArray=>{d with cu:=d.cu++[(t1,bs.drop p1)]}) (r:=r1.map λx=>(x.1,bs.length)) (by cases r1 with|none=>cases e|some x=>exact e)
      cases hr:r1 with
      |none=>rw[hr]at hz;cases hz
      |some x0=>
       have hs:=(HGn.out x0.1 x0.2 hr).2
       rw[<-HV1.out x0.1 x0.2 hr]at hs
       have hstr:StrOk t1:=by
        have e2:=size_list t1
        unfold Bin.sName at hs
        exact⟨by unfold maxLen;omega,by unfold RB;omega⟩
       obtain⟨A8,c8,e8,hd9⟩:=HPu.out (HXa.out hstr) (by omega)
       injection e8 with e8 _ e7
       subst e8 e7
       exact⟨{m with cu:=⟨m.cu.l++[⟨t1,⟨bs.drop p1,A7,c7⟩⟩],A9,c9⟩},by
        have:=HM9.out.set 10 (.slice A9 (m.cu.l.length+1) c9) (by simp)
        have e3:(m.cu.l++[(⟨t1,⟨bs.drop p1,A7,c7⟩⟩:Cu)]).length=m.cu.l.length+1:=by simp
        unfold Mo.cells SL.v
        dsimp only
        rw[e3]
        exact this,hd9.kx (M:=Only Mb) ((Kx.refl_ (M:=Only Mb)).setCell (p:=⟨Mb,10,none⟩) (.inl rfl) _) (by rintro b rfl;exact hMlo)⟩
end
end Go.Proofs.YteoijlfipmaoeaaGreatDoor
