import Derived.Test.YteoijlfipmaoeaaGreatDoorPJ13
import Derived.Lib.BufferMore
import Derived.ArgAppend
import Derived.Lib.SlBytesConst
set_option linter.unusedVariables false
set_option linter.unusedSimpArgs false
set_option maxRecDepth 100000
set_option maxHeartbeats 8000000
namespace Go.Proofs.YteoijlfipmaoeaaGreatDoor
open Lib (hid)
open Go.RowKit Go.ChangeShapes Go.WideShapes Go.Deep Trx
open Go.Proofs.Tryz
structure Sc where
 id:Int
 at_:Int
 A:Option Addr
 c:Nat
 bs:List UInt8
def Sc.cells(s:Sc):List Value:=[.int .i64 s.id,.int .i64 s.at_,.slice s.A s.bs.length s.c]
def Sc.key(s:Sc):Int×List UInt8:=(s.id,s.bs)
theorem Sc.one(s:Sc):∀u∈s.cells,u.oneCell'=true:=by
 intro u hu
 simp[Sc.cells]at hu
 rcases hu with rfl|rfl|rfl<;>rfl
structure ScOk(w:World)(B:Nat)(s:Sc):Prop where
 id:inI s.id
 at_:inI s.at_
 sl:Sl w B s.A (u8s s.bs)
 c:s.bs.length<=s.c
 m:s.c<=maxLen
structure SecsAt(w:World)(B:Nat)(A:Option Addr)(l:List Sc):Prop where
 row:RowsAt w B A 3 (l.map Sc.cells)
 all:∀s∈l,ScOk w B s
theorem elem_sec:ElemK prog 82 3 40:=ElemK.mk_ (z:=.agg #[.int .i64 0,.int .i64 0,.slice none 0 0]) (by kernel_rfl) rfl
section
variable{w w':World}{B B':Nat}{A:Option Addr}{l:List Sc}{s:Sc}
theorem ScOk.keep(hB:B<=B')(hk:∀b o,b<B->w'.cell? ⟨b,o,none⟩=w.cell? ⟨b,o,none⟩)(h:ScOk w B s):ScOk w' B' s:=⟨h.id,h.at_,(h.sl.keep hk).more hB,h.c,h.m⟩
theorem SecsAt.keep(hB:B<=B')(hk:∀b o,b<B->w'.cell? ⟨b,o,none⟩=w.cell? ⟨b,o,none⟩)(h:SecsAt w B A l):SecsAt w' B' A l:=
 ⟨h.row.keep hB hk,λs hs=>(h.all s hs).keep hB hk⟩
theorem SecsAt.below(h:SecsAt w B A l)(hb:Below B w w'):SecsAt w' B A l:=h.keep (zq _) λb o hp=>hb.cell (p:=⟨b,o,none⟩) hp
theorem SecsAt.at_(h:SecsAt w B A l){i:Nat}(hi:i<l.length):∃b o,A=some ⟨b,o,none⟩/\b<B/\w.cell? ⟨b,o+i * 3,none⟩=some (.int .i64 l[i].id)/\w.cell? ⟨b,o+i * 3+1,none⟩=some (.int .i64 l[i].at_)/\
  w.cell? ⟨b,o+i * 3+2,none⟩=some (.slice l[i].A l[i].bs.length l[i].c)/\ScOk w B l[i]:=by
 obtain⟨b,o,e,hb,hc⟩:=h.row.at_ (i:=i) (r:=l[i].cells) (by simp[hi])
 exact⟨b,o,e,hb,hc 0 (by omega),hc 1 (by omega),hc 2 (by omega),h.all _ (jf hi)⟩
end
theorem string_of{w:World}{B:Nat}{A:Option Addr}{bs:List UInt8}(h:Sl w B A (u8s bs))(c:Nat):(convert 35 9 (.slice A bs.length c)).run prog w=.ok (.string ⟨bs.toArray⟩) w:=
 run_str_of (P:=prog) 35 9 5 underlying35 underlying5 underlying9 h c
theorem follows_any(i hi:Int)(w:World)(h1:inI i)(h2:inI hi):
  Calls prog 129 #[.int .i64 i,.int .i64 hi] w λe w'=>e=.returned (.bool (Sect.fol i hi))/\w=w':=by
 unfold inI at h1 h2
 unfold Sect.fol
 obtain⟨p,hp⟩:∃p,(i==0)=p:=⟨_,rfl⟩
 obtain⟨q,hq⟩:∃q,decide (hi<i)=q:=⟨_,rfl⟩
 obtain⟨r,hr⟩:∃r,decide (i<=11)=r:=⟨_,rfl⟩
 rw[hp,hq,hr]
 cases p<;>cases q
 all_goals
  go_enter func129,ntmps129
  go_wp2_with fail
  go_ret
  exact⟨by cases r<;>rfl,rfl⟩
def SpotB(B:Nat)(w:World)(v:Value)(at_ code:Int):Prop:=
 ∃b o,v=.iface 115 (.pointer (some ⟨b,o,none⟩))/\B<=b/\w.cell? ⟨b,o,none⟩=some (.int .i64 at_)/\w.cell? ⟨b,o+1,none⟩=some (.iface 40 (.int .i64 code))
theorem SpotB.spot{B:Nat}{w:World}{v:Value}{a k:Int}(h:SpotB B w v a k):SpotIs w v a k:=by
 obtain⟨b,o,e,-,h1,h2⟩:=h
 exact⟨b,o,e,h1,h2⟩
theorem SpotB.setCell{B:Nat}{w:World}{v:Value}{a k:Int}(h:SpotB B w v a k){g:Nat}(hg:g<B)(i:Nat)(u:Value):SpotB B (w.setCell ⟨g,i,none⟩ u) v a k:=by
 obtain⟨b,o,e,hb,h1,h2⟩:=h
 exact⟨b,o,e,hb,(zk _ _ _ _ (by intro e;injection e with e;omega)).trans h1,(zk _ _ _ _ (by intro e;injection e with e;omega)).trans h2⟩
theorem sspot_any(p k:Int)(w:World):
  Calls prog 128 #[.int .i64 p,.int .i64 k] w λe w'=>∃v,e=.returned v/\SpotB w.heap.size w' v p k/\Below w.heap.size w w':=by
 go_enter func128,ntmps128
 go_wp2_with fail
 go_ret
 obtain⟨b,o,h1,h2,h3⟩:=SpotIs.new w p k 120
 injection h1 with _ h1
 injection h1 with h1
 injection h1 with h1
 injection h1 with h1 h4
 subst h1 h4
 exact⟨_,rfl,⟨_,_,rfl,zq _,h2,h3⟩,(zx _ _).alloc (zq _) _⟩
theorem flatten_ones(vs:List Value):(ones vs).flatten=vs:=by
 induction vs with
 |nil=>rfl
 |cons v vs ih=>simp only[ones,qu,xy]at ih⊢;rw[ih];rfl
theorem OwB.litS(w:World)(bs:List UInt8)(hm:bs.length<=maxLen)(n:Nat)(hn:n=w.heap.size):OwB w (w.alloc (.cells (u8s bs).toArray 5)) (.slice (some ⟨n,0,none⟩) bs.length bs.length) bs:=by
 subst hn
 refine⟨?_,ones_len _,(zx _ _).alloc (zq _) _,by simp⟩
 have:=World.ownsRow_lit (base:=w.heap.size) (e:=5) (size:=1) w (u8s bs).toArray bs.length (by simp) (by simpa using hm) (by simp)
 rw[flatten_ones]
 simpa using this
theorem Clone_any(A:Option Addr)(c:Nat)(bs:List UInt8)(w:World)(hs:Sl w w.heap.size A (u8s bs))(hl:bs.length<=100000000):
  Calls prog 189 #[.slice A bs.length c] w λe w'=>∃A' c',e=.returned (.slice A' bs.length c')/\OwB w w' (.slice A' bs.length c') bs:=by
 cases A with
 |none=>
  have hb:bs=[]:=by
   rcases Classical.em (bs=[])with h|h
   ·exact h
   ·
    obtain⟨_,_,e,_⟩:=hs (λe=>h (by have:=congrArg List.length e;rw[u8s_length]at this;exact zc this))
    cases e
  subst hb
  have he:=Lib.run_eql_slice_nil_nil (P:=prog) w 0 c underlying35
  go_enter func189,ntmps189
  go_wp2_with fail
  go_ret
  exact⟨none,0,rfl,OwnK.nil_ _ _ _ _ (zx _ _) (zq _)⟩
 |some a=>
  have HS:=hid hs
  have he:=Lib.run_eql_slice_some_nil (P:=prog) w a bs.length c underlying35
  clear hs
  go_enter func189,ntmps189
  go_wp2_with(first
   |(at_builtin;refine wpl_bytes rfl (.tmp 5) (.tmp 6) rfl bs rfl (OwB.litS w [] (by decide) _ rfl) rfl (HS.out.below ((zx _ _).alloc (zq _) _)) rfl (by simp;omega) ?_;intro v1 w2 ho2 hk2;rw[qx]at ho2;have HO2:=hid ho2;clear ho2 hk2))
  go_ret
  obtain⟨A',c',rfl,-,-,-⟩:=OwnK.form HO2.out
  rw[ones_length,u8s_length]
  exact⟨A',c',rfl,by simpa using HO2.out⟩
end Go.Proofs.YteoijlfipmaoeaaGreatDoor
namespace Go.Proofs.YteoijlfipmaoeaaGreatDoor
open Lib (hid)
open Go.RowKit Trx
open Go.Proofs.Tryz
def SecBad(p k:Nat)(w:World):Ending->World->Prop:=λe w'=>∃v,e=.returned (.tuple #[.agg #[.int .i64 0,.int .i64 0,.slice none 0 0],v])/\SpotIs w' v p k/\Below w.heap.size w w'
def SecGood(j:Nat)(bs:List UInt8)(w:World):Ending->World->Prop:=λe w'=>∃A c,e=.returned (.tuple #[.agg #[.int .i64 0,.int .i64 j,.slice A bs.length c],.nilIface])/\OwB w w' (.slice A bs.length c) bs
theorem set3{w:World}{g:Nat}{x0 x1 x2:Value}(a b c:Value)(h0:w.cell? ⟨g,0,none⟩=some x0)(h1:w.cell? ⟨g,1,none⟩=some x1)(h2:w.cell? ⟨g,2,none⟩=some x2):
  (((w.setCell ⟨g,0,none⟩ a).setCell ⟨g,1,none⟩ b).setCell ⟨g,2,none⟩ c).cell? ⟨g,0,none⟩=some a/\(((w.setCell ⟨g,0,none⟩ a).setCell ⟨g,1,none⟩ b).setCell ⟨g,2,none⟩ c).cell? ⟨g,1,none⟩=some b/\
  (((w.setCell ⟨g,0,none⟩ a).setCell ⟨g,1,none⟩ b).setCell ⟨g,2,none⟩ c).cell? ⟨g,2,none⟩=some c/\∀B,B<=g->Below B w (((w.setCell ⟨g,0,none⟩ a).setCell ⟨g,1,none⟩ b).setCell ⟨g,2,none⟩ c):=by
 have n1:∀i j:Nat,i≠j->(⟨g,i,none⟩:Addr)≠⟨g,j,none⟩:=λi j h e=>by injection e with _ e;omega
 have k1:=ze w ⟨g,0,none⟩ a h0
 have k2:(w.setCell ⟨g,0,none⟩ a).cell? ⟨g,1,none⟩=some x1:=(zk _ _ _ _ (n1 _ _ (by omega))).trans h1
 have k3:=ze _ ⟨g,1,none⟩ b k2
 have k4:((w.setCell ⟨g,0,none⟩ a).setCell ⟨g,1,none⟩ b).cell? ⟨g,2,none⟩=some x2:=(zk _ _ _ _ (n1 _ _ (by omega))).trans ((zk _ _ _ _ (n1 _ _ (by omega))).trans h2)
 refine⟨?_,(zk _ _ _ _ (n1 _ _ (by omega))).trans k3,ze _ _ _ k4,λB hB=>?_⟩
 ·exact(zk _ _ _ _ (n1 _ _ (by omega))).trans ((zk _ _ _ _ (n1 _ _ (by omega))).trans k1)
 ·exact(((zx B w).setCell (p:=⟨g,0,none⟩) hB _).setCell (p:=⟨g,1,none⟩) hB _).setCell (p:=⟨g,2,none⟩) hB _
theorem Sl.cutS{w:World}{B:Nat}{A:Option Addr}{bs:List UInt8}{c:Nat}(h:Sl w B A (u8s bs))(hc:bs.length<=c)(j k:Nat):Sl w B (if c=j then A else A.map (·.add j)) (u8s ((bs.drop j).take k)):=by
 rw[u8s_take,u8s_drop]
 exact(h.drop (by simpa using hc)).take k
theorem section_none(A:Option Addr)(c:Nat)(bs:List UInt8)(p:Nat)(w:World)(hs:Sl w w.heap.size A (u8s bs))(hc:bs.length<=c)(hm:c<=maxLen)(hp:p<=bs.length)(hu:Leb.uOf bs p 32=none):
  Calls prog 130 #[.slice A bs.length c,.int .i64 p] w (SecBad p 2 w):=by
 have HC:=hid (λ(w':World) (hb:Below w.heap.size w w')=>U_int (w:=w') (at_:=p) (bits:=32) none (hs.below hb) hb.size rfl hc hm (by decide) (by decide) (by omega) (by omega) (by simpa using hu))
 unfold luV at HC
 have HS:=hid (λw'=>sspot_any p 2 w')
 unfold SecBad
 clear hs hu
 go_enter func130,ntmps130
 go_wp2_with fail
 with_reducible refine(HC.out _ ((zx _ _).alloc (zq _) _)).mono ?_
 rintro e w1 ⟨rfl,nq,hw1⟩
 have HB1:Hid (Below w.heap.size w w1):=hid (by rw[hw1];exact below_drewN ((zx _ _).alloc (zq _) _) nq)
 have k1:∀i,w1.cell? ⟨w.heap.size,i,none⟩=(#[.int .i64 0,.int .i64 0,.slice none 0 0]:Array Value)[i]?:=λi=>by rw[hw1];exact zv _ _ _ _ rfl
 have kf:∀i,w1.frozen? ⟨w.heap.size,i,none⟩=false:=λi=>by rw[hw1];exact zw _ _ _ _ rfl
 have k10:w1.cell? ⟨w.heap.size,0,none⟩=some (.int .i64 0):=k1 0
 have k11:w1.cell? ⟨w.heap.size,1,none⟩=some (.int .i64 0):=k1 1
 have k12:w1.cell? ⟨w.heap.size,2,none⟩=some (.slice none 0 0):=k1 2
 have hl1:w.heap.size<w1.heap.size:=by rw[hw1];simp[World.drewN]
 clear hw1 k1
 go_wp2_with fail
 with_reducible refine(HS.out _).mono ?_
 rintro e w2 ⟨v,rfl,hsp,hb2⟩
 have m0:=(hb2.cell (p:=⟨w.heap.size,0,none⟩) hl1).trans k10
 have m1:=(hb2.cell (p:=⟨w.heap.size,1,none⟩) hl1).trans k11
 have m2:=(hb2.cell (p:=⟨w.heap.size,2,none⟩) hl1).trans k12
 have mf:∀i,w2.frozen? ⟨w.heap.size,i,none⟩=false:=λi=>(hb2.frozen (p:=⟨w.heap.size,i,none⟩) hl1).trans (kf i)
 have hl2:=zj hl1 hb2.size
 have HB2:=hid (HB1.out.trans (hb2.mono HB1.out.size))
 have HSp:=hid hsp
 clear hsp hb2 k10 k11 k12 kf
 go_wp2_with fail
 obtain⟨y0,y1,y2,hb3⟩:=set3 (.int .i64 0) (.int .i64 0) (.slice none 0 0) m0 m1 m2
 refine bodyPost_ret (v:=.tuple #[.agg #[.int .i64 0,.int .i64 0,.slice none 0 0],v]) (by simp[results,results130,go_sem,y0,y1,y2]) rfl ?_
 exact⟨v,rfl,(((HSp.out.setCell hl1 0 _).setCell hl1 1 _).setCell hl1 2 _).spot,HB2.out.trans (hb3 _ (zq _))⟩
theorem section_over(A:Option Addr)(c:Nat)(bs:List UInt8)(p:Nat)(w:World)(hs:Sl w w.heap.size A (u8s bs))(hc:bs.length<=c)(hm:c<=maxLen)(hp:p<=bs.length)(k j:Nat)(hu:Leb.uOf bs p 32=some (k,j))(hk:bs.length-j<k):
  Calls prog 130 #[.slice A bs.length c,.int .i64 p] w (SecBad p 2 w):=by
 have hj:=Leb.uOf_le _ _ _ _ _ hu
 have hk64:=Leb.uOf_lt _ _ _ _ _ hu
 have HC:=hid (λ(w':World) (hb:Below w.heap.size w w')=>U_int (w:=w') (at_:=p) (bits:=32) (some (k,j)) (hs.below hb) hb.size rfl hc hm (by decide) (by decide) (by omega) (by omega) (by simpa using hu))
 unfold luV at HC
 have HS:=hid (λw'=>sspot_any p 2 w')
 unfold SecBad
 clear hs hu
 go_enter func130,ntmps130
 go_wp2_with fail
 with_reducible refine(HC.out _ ((zx _ _).alloc (zq _) _)).mono ?_
 rintro e w1 ⟨rfl,nq,hw1⟩
 have HB1:Hid (Below w.heap.size w w1):=hid (by rw[hw1];exact below_drewN ((zx _ _).alloc (zq _) _) nq)
 have k1:∀i,w1.cell? ⟨w.heap.size,i,none⟩=(#[.int .i64 0,.int .i64 0,.slice none 0 0]:Array Value)[i]?:=λi=>by rw[hw1];exact zv _ _ _ _ rfl
 have kf:∀i,w1.frozen? ⟨w.heap.size,i,none⟩=false:=λi=>by rw[hw1];exact zw _ _ _ _ rfl
 have k10:w1.cell? ⟨w.heap.size,0,none⟩=some (.int .i64 0):=k1 0
 have k11:w1.cell? ⟨w.heap.size,1,none⟩=some (.int .i64 0):=k1 1
 have k12:w1.cell? ⟨w.heap.size,2,none⟩=some (.slice none 0 0):=k1 2
 have hl1:w.heap.size<w1.heap.size:=by rw[hw1];simp[World.drewN]
 clear hw1 k1
 unfold maxLen at hm
 go_wp2_with fail
 with_reducible refine(HS.out _).mono ?_
 rintro e w2 ⟨v,rfl,hsp,hb2⟩
 have m0:=(hb2.cell (p:=⟨w.heap.size,0,none⟩) hl1).trans k10
 have m1:=(hb2.cell (p:=⟨w.heap.size,1,none⟩) hl1).trans k11
 have m2:=(hb2.cell (p:=⟨w.heap.size,2,none⟩) hl1).trans k12
 have mf:∀i,w2.frozen? ⟨w.heap.size,i,none⟩=false:=λi=>(hb2.frozen (p:=⟨w.heap.size,i,none⟩) hl1).trans (kf i)
 have hl2:=zj hl1 hb2.size
 have HB2:=hid (HB1.out.trans (hb2.mono HB1.out.size))
 have HSp:=hid hsp
 clear hsp hb2 k10 k11 k12 kf
 go_wp2_with fail
 obtain⟨y0,y1,y2,hb3⟩:=set3 (.int .i64 0) (.int .i64 0) (.slice none 0 0) m0 m1 m2
 refine bodyPost_ret (v:=.tuple #[.agg #[.int .i64 0,.int .i64 0,.slice none 0 0],v]) (by simp[results,results130,go_sem,y0,y1,y2]) rfl ?_
 exact⟨v,rfl,(((HSp.out.setCell hl1 0 _).setCell hl1 1 _).setCell hl1 2 _).spot,HB2.out.trans (hb3 _ (zq _))⟩
theorem section_ok(A:Option Addr)(c:Nat)(bs:List UInt8)(p:Nat)(w:World)(hs:Sl w w.heap.size A (u8s bs))(hc:bs.length<=c)(hm:c<=maxLen)(hp:p<=bs.length)(k j:Nat)(hu:Leb.uOf bs p 32=some (k,j))(hk:k<=bs.length-j)(hL:bs.length<=100000000):
  Calls prog 130 #[.slice A bs.length c,.int .i64 p] w (SecGood j ((bs.drop j).take k) w):=by
 have hj:=Leb.uOf_le _ _ _ _ _ hu
 have hlen:((bs.drop j).take k).length=k:=by simp;omega
 have HC:=hid (λ(w':World) (hb:Below w.heap.size w w')=>U_int (w:=w') (at_:=p) (bits:=32) (some (k,j)) (hs.below hb) hb.size rfl hc hm (by decide) (by decide) (by omega) (by omega) (by simpa using hu))
 unfold luV at HC
 have HN:=hid (λ(w':World) (hb:Below w.heap.size w w')=>Clone_any (if c=j then A else A.map (·.add j)) (c-j) ((bs.drop j).take k) w' (((hs.below hb).more hb.size).cutS hc j k) (by omega))
 rw[hlen]at HN
 unfold SecGood
 rw[hlen]
 have t1:IntKind.i64.wrap ((j:Int)+(k:Int))=((j+k:Nat):Int):=by
  unfold maxLen at hm;rw[IntWalk.i64_left];unfold wrap64;omega
 have t2:((k:Int)).toNat=k:=by simp
 have hjk:j+k<=c:=by omega
 have hjk':(j:Int)+k<=c:=by omega
 have hkb:(k:Int)<=bs.length-j:=by omega
 clear hs hu hlen
 unfold maxLen at hm
 by_cases hcj:c=j
 ·
  rw[if_pos hcj,show c-j=0 by omega]at HN
  subst hcj
  obtain rfl:k=0:=by omega
  go_enter func130,ntmps130
  go_wp2_with fail
  with_reducible refine(HC.out _ ((zx _ _).alloc (zq _) _)).mono ?_
  rintro e w1 ⟨rfl,nq,hw1⟩
  have HB1:Hid (Below w.heap.size w w1):=hid (by rw[hw1];exact below_drewN ((zx _ _).alloc (zq _) _) nq)
  have k1:∀i,w1.cell? ⟨w.heap.size,i,none⟩=(#[.int .i64 0,.int .i64 0,.slice none 0 0]:Array Value)[i]?:=λi=>by rw[hw1];exact zv _ _ _ _ rfl
  have kf:∀i,w1.frozen? ⟨w.heap.size,i,none⟩=false:=λi=>by rw[hw1];exact zw _ _ _ _ rfl
  have k10:w1.cell? ⟨w.heap.size,0,none⟩=some (.int .i64 0):=k1 0
  have k11:w1.cell? ⟨w.heap.size,1,none⟩=some (.int .i64 0):=k1 1
  have k12:w1.cell? ⟨w.heap.size,2,none⟩=some (.slice none 0 0):=k1 2
  have hl1:w.heap.size<w1.heap.size:=by rw[hw1];simp[World.drewN]
  clear hw1 k1
  go_wp2_with fail
  with_reducible refine(HN.out _ HB1.out).mono ?_
  rintro e w2 ⟨A',c',rfl,ho⟩
  have hb2:=ho.below
  have m0:=(hb2.cell (p:=⟨w.heap.size,0,none⟩) hl1).trans k10
  have m1:=(hb2.cell (p:=⟨w.heap.size,1,none⟩) hl1).trans k11
  have m2:=(hb2.cell (p:=⟨w.heap.size,2,none⟩) hl1).trans k12
  have mf:∀i,w2.frozen? ⟨w.heap.size,i,none⟩=false:=λi=>(hb2.frozen (p:=⟨w.heap.size,i,none⟩) hl1).trans (kf i)
  have hl2:=zj hl1 hb2.size
  have hne:(Value.slice A' 0 c').ownBlock≠some w.heap.size:=ho.old hl1
  have HB2:=hid (HB1.out.trans (hb2.mono HB1.out.size))
  have HO:=hid (OwnK.base ho HB1.out.size HB1.out)
  have HNe:=hid hne
  clear ho hb2 k10 k11 k12 kf hne
  go_wp2_with fail
  obtain⟨y0,y1,y2,hb3⟩:=set3 (.int .i64 0) (.int .i64 c) (.slice A' 0 c') m0 m1 m2
  refine bodyPost_ret (v:=.tuple #[.agg #[.int .i64 0,.int .i64 c,.slice A' 0 c'],.nilIface]) (by simp[results,results130,go_sem,y0,y1,y2]) rfl ?_
  exact⟨A',c',rfl,((HO.out.setOther (zq _) HNe.out 0 _).setOther (zq _) HNe.out 1 _).setOther (zq _) HNe.out 2 _⟩
 ·
  rw[if_neg hcj]at HN
  go_enter func130,ntmps130
  go_wp2_with fail
  with_reducible refine(HC.out _ ((zx _ _).alloc (zq _) _)).mono ?_
  rintro e w1 ⟨rfl,nq,hw1⟩
  have HB1:Hid (Below w.heap.size w w1):=hid (by rw[hw1];exact below_drewN ((zx _ _).alloc (zq _) _) nq)
  have k1:∀i,w1.cell? ⟨w.heap.size,i,none⟩=(#[.int .i64 0,.int .i64 0,.slice none 0 0]:Array Value)[i]?:=λi=>by rw[hw1];exact zv _ _ _ _ rfl
  have kf:∀i,w1.frozen? ⟨w.heap.size,i,none⟩=false:=λi=>by rw[hw1];exact zw _ _ _ _ rfl
  have k10:w1.cell? ⟨w.heap.size,0,none⟩=some (.int .i64 0):=k1 0
  have k11:w1.cell? ⟨w.heap.size,1,none⟩=some (.int .i64 0):=k1 1
  have k12:w1.cell? ⟨w.heap.size,2,none⟩=some (.slice none 0 0):=k1 2
  have hl1:w.heap.size<w1.heap.size:=by rw[hw1];simp[World.drewN]
  clear hw1 k1
  go_wp2_with fail
  with_reducible refine(HN.out _ HB1.out).mono ?_
  rintro e w2 ⟨A',c',rfl,ho⟩
  have hb2:=ho.below
  have m0:=(hb2.cell (p:=⟨w.heap.size,0,none⟩) hl1).trans k10
  have m1:=(hb2.cell (p:=⟨w.heap.size,1,none⟩) hl1).trans k11
  have m2:=(hb2.cell (p:=⟨w.heap.size,2,none⟩) hl1).trans k12
  have mf:∀i,w2.frozen? ⟨w.heap.size,i,none⟩=false:=λi=>(hb2.frozen (p:=⟨w.heap.size,i,none⟩) hl1).trans (kf i)
  have hl2:=zj hl1 hb2.size
  have hne:(Value.slice A' k c').ownBlock≠some w.heap.size:=ho.old hl1
  have HB2:=hid (HB1.out.trans (hb2.mono HB1.out.size))
  have HO:=hid (OwnK.base ho HB1.out.size HB1.out)
  have HNe:=hid hne
  clear ho hb2 k10 k11 k12 kf hne
  go_wp2_with fail
  obtain⟨y0,y1,y2,hb3⟩:=set3 (.int .i64 0) (.int .i64 j) (.slice A' k c') m0 m1 m2
  refine bodyPost_ret (v:=.tuple #[.agg #[.int .i64 0,.int .i64 j,.slice A' k c'],.nilIface]) (by simp[results,results130,go_sem,y0,y1,y2]) rfl ?_
  exact⟨A',c',rfl,((HO.out.setOther (zq _) HNe.out 0 _).setOther (zq _) HNe.out 1 _).setOther (zq _) HNe.out 2 _⟩
def Sc.tr(s:Sc):Int×Int×List UInt8:=(s.id,s.at_,s.bs)
def NewSc(S:Nat->Prop)(w:World)(s:Sc):Prop:=∀w',Agr S w w'->ScOk w' w.heap.size s
def NewSecs(S:Nat->Prop)(w:World)(A:Option Addr)(l:List Sc):Prop:=∀w',Agr S w w'->SecsAt w' w.heap.size A l
def ptr(s:Sect.Pt):Int×Int×List UInt8:=(s.id,(s.at_:Int),s.bs)
def CpSc(lo:Nat)(w:World)(v:Value):Nat->Prop:=λb=>lo<=b/\b<w.heap.size/\v.ownBlock≠some b
theorem NewSc.move{S S':Nat->Prop}{w w':World}{s:Sc}(h:NewSc S w s)(ha:Agr S w w')(hs:∀b,S b->S' b)(hB:w.heap.size<=w'.heap.size):NewSc S' w' s:=λw2 hx=>(h w2 (ha.trans (hx.sub hs))).keep hB λ_ _ _=>rfl
def SplitR(r:Except (Nat×Nat) (List Sect.Pt))(w:World):Ending->World->Prop:=λe w'=>match r with
 |.error (k,p)=>∃v,e=.returned (.tuple #[.slice none 0 0,v])/\SpotIs w' v p k/\Below w.heap.size w w'
 |.ok t=>∃A l c,e=.returned (.tuple #[.slice A (List.length l) c,.nilIface])/\l.map Sc.tr=t.map ptr/\l.length<=c/\c<=maxLen/\NewSecs (Win w.heap.size w') w' A l/\Below w.heap.size w w'
def SplL(bs:List UInt8)(w:World)(v h a:Value)(wr:World):Prop:=∃(acc:List Sc) (t:List Sect.Pt) (hi:Int) (p:Nat),h=.int .i64 hi/\a=.int .i64 p/\p<=bs.length/\8<=p/\0<=hi/\hi<=11/\Hid (acc.map Sc.tr=t.map ptr)/\acc.length<=128/\
 OwnK w.heap.size w wr 82 3 v (acc.map Sc.cells)/\(∀s∈acc,NewSc (CpSc w.heap.size wr v) wr s)/\Hid (Sect.spl (bs.drop 8) 8 0 0=Sect.pre t (Sect.spl (bs.drop p) p hi acc.length))
theorem secs_of_own{w wr:World}{v:Value}{acc:List Sc}(ho:OwnK w.heap.size w wr 82 3 v (acc.map Sc.cells))(hnew:∀s∈acc,NewSc (CpSc w.heap.size wr v) wr s):
  ∃A c,v=.slice A acc.length c/\acc.length<=c/\c<=maxLen/\NewSecs (Win w.heap.size wr) wr A acc:=by
 obtain⟨A,c,rfl,h1,h2,hrow⟩:=ho.formB (by omega)
 rw[zd]at h1⊢
 refine⟨A,c,rfl,h1,h2,λw' ha=>⟨λhne=>?_,λs hs=>(hnew s hs) w' (λb o hb=>ha b o ⟨hb.1,hb.2.1⟩)⟩⟩
 obtain⟨g,hg,hA,hB,hlt,hc⟩:=hrow hne
 refine⟨g,0,hA,hlt,λi r hi j hj=>?_⟩
 rw[qz,ha g _ ⟨hB,hlt⟩,hc i r hi j hj]
theorem gather{w wr w1 wm w6:World}{v v6:Value}{acc:List Sc}{A5:Option Addr}{c5:Nat}{ys:List UInt8}(i a:Int)(hi:inI i)(ha:inI a)(hv:∀g,v.ownBlock=some g->g<wr.heap.size)(hlo:w.heap.size<=wr.heap.size)
  (hnew:∀s∈acc,NewSc (CpSc w.heap.size wr v) wr s) (h5:OwB wr w1 (.slice A5 ys.length c5) ys) (hm:Below w1.heap.size w1 wm)
  (hk:∀m,m<wm.heap.size->v.ownBlock≠some m->w6.heap[m]? =wm.heap[m]?/\v6.ownBlock≠some m) (hs:wm.heap.size<=w6.heap.size):
  ∀s∈acc++[⟨i,a,A5,c5,ys⟩],NewSc (CpSc w.heap.size w6 v6) w6 s:=by
 intro s hs'
 have h5b:=h5.below
 have z1:=h5b.size
 have z2:=hm.size
 rcases List.mem_append.1 hs' with h|h
 ·
  refine(hnew s h).move (agr_of_heap λb hb=>?_) (λb hb=>⟨hb.1,by have:=hb.2.1;omega,(hk b (by have:=hb.2.1;omega) hb.2.2).2⟩) (by omega)
  exact(hk b (by have:=hb.2.1;omega) hb.2.2).1.trans ((hm.block b (by have:=hb.2.1;omega)).trans (h5b.block b hb.2.1))
 ·
  simp at h
  subst h
  obtain⟨A',c',e,hl,hmx,-⟩:=OwnK.form h5
  rw[ones_length,u8s_length]at e hl
  injection e with e1 e2 e3
  subst e1 e3
  have hS:=OwnK.newS h5 (S:=λb=>wr.heap.size<=b/\b<w1.heap.size) (λg hg=>OwnK.own_lt h5 hg)
  have hnv:∀b,wr.heap.size<=b->v.ownBlock≠some b:=λb hb e=>by have:=hv b e;omega
  intro w' hagr
  refine⟨hi,ha,?_,hl,hmx⟩
  refine(hS w' (λb o hb=>?_)).more (by omega)
  refine(hagr b o ⟨by have:=hb.1;omega,by have:=hb.2;omega,(hk b (by have:=hb.2;omega) (hnv b hb.1)).2⟩).trans (zm ?_)
  exact(hk b (by have:=hb.2;omega) (hnv b hb.1)).1.trans (hm.block b hb.2)
theorem Split_any(A:Option Addr)(c:Nat)(bs:List UInt8)(w:World)(hs:Sl w w.heap.size A (u8s bs))(hc:bs.length<=c)(hm:c<=maxLen)(hL:bs.length<=100000000):
  Calls prog 28 #[.slice A bs.length c] w (SplitR (Sect.split bs) w):=by
 have HSp:=hid (λp k w'=>sspot_any p k w')
 have HS:=hid hs
 have hm':=hm
 unfold maxLen at hm'
 by_cases h8:bs.length<8
 ·
  have e:Sect.split bs=.error (2,0):=by
   unfold Sect.split
   rw[if_neg (λe=>by have:=congrArg List.length e;simp[Sect.magic]at this;omega)]
  rw[e]
  unfold SplitR
  clear e
  go_enter func28,ntmps28
  go_wp2_with(first|(go_at_call 128;(with_reducible refine(HSp.out _ _ _).mono ?_);rintro e w1 ⟨v,rfl,hsp,hb1⟩;have HSP:=hid hsp;have HB:=hid hb1;clear hsp hb1))
  go_ret2
  exact⟨v,rfl,HSP.out.spot,HB.out⟩
 ·
  have hcv:=string_of (w:=w) (hs.take 8 |> λh=>(by rw[<-u8s_take]at h;exact h:Sl w w.heap.size A (u8s (bs.take 8)))) c
  rw[show(bs.take 8).length=8 by simp;omega]at hcv
  have b8:(8:Int)<=c:=by omega
  have b8':8<=c:=by omega
  by_cases hmg:bs.take 8=Sect.magic
  ·
   obtain⟨R,hR⟩:∃R,Sect.split bs=R:=⟨_,rfl⟩
   have HR:Hid (Sect.spl (bs.drop 8) 8 0 0=R):=hid (by rw[<-hR];unfold Sect.split;rw[if_pos hmg])
   have hne:((bs.take 8)==[0,97,115,109,1,0,0,0])=true:=by rw[hmg];rfl
   rw[hR]
   refine postL λP hP=>?_
   have HPe:=hid hP
   clear hR hmg hP hs
   have h8':8<=bs.length:=by omega
   clear h8
   have HM:=hid hm
   clear hm
   go_enter func28,ntmps28
   go_wp2_with fail
   go_loopw [4,5,6] (λv h a wr=>SplL bs w v h a wr) (λ_ _ a _=>bs.length-(intOf a).toNat)
   case atStart=>exact⟨[],[],0,8,rfl,rfl,h8',by omega,by omega,by omega,hid rfl,by simp,OwnK.nil_ _ _ _ _ (zx _ _) (zq _),by simp,hid (by rw[Sect.pre_nil];rfl)⟩
   case round=>
    obtain⟨acc,t,hi,p,rfl,rfl,hp,hp8,hi0,hi11,HT,hacc,ho,hnew,HE⟩:=hrel
    by_cases hlt:p<bs.length
    ·
     obtain⟨b,o,rfl,hbl,hcell⟩:=HS.out (λe=>by have:=congrArg List.length e;rw[u8s_length,zh]at this;omega)
     have hx:wr.cell? ⟨b,o+p,none⟩=some (.int .u8 ((bs[p]).toNat:Int)):=(ho.below.cell (p:=⟨b,o+p,none⟩) hbl).trans ((hcell p (by simpa using hlt)).trans (u8s_get bs p hlt))
     have hat:=Sect.spl_at bs p hi acc.length hlt
     obtain⟨x,hxe⟩:∃x,bs[p]=x:=⟨_,rfl⟩
     rw[hxe]at hx hat
     have hxl:=x.toNat_lt
     have hcl:=hcell
     have HF:=hid (λw'=>follows_any x.toNat hi w' (by unfold inI;omega) (by unfold inI;omega))
     obtain⟨f,hf⟩:∃f,Sect.fol x.toNat hi=f:=⟨_,rfl⟩
     rw[hf]at HF hat
     have HO:=hid ho
     have HNew:=hid hnew
     have HB:=hid ho.below
     have hbl':=zj hbl ho.below.size
     have hac:=ho.form
     have hlen4:∃A4 c4,u4=.slice A4 acc.length c4:=by
      obtain⟨A4,c4,e4,-⟩:=hac
      rw[zd]at e4
      exact⟨A4,c4,e4⟩
     obtain⟨A4,c4,rfl⟩:=hlen4
     clear ho hnew hcell hcl hac
     cases f
     ·
      rw[if_pos rfl]at hat
      have hRe:R=.error (2,p):=by rw[<-HR.out,HE.out,hat];rfl
      have HRe:=hid hRe
      clear hat hRe
      go_wp2_with(first
       |(go_at_call 129;(with_reducible refine(HF.out _).mono ?_);rintro e w1 ⟨rfl,rfl⟩)
       |(go_at_call 128;(with_reducible refine(HSp.out _ _ _).mono ?_);rintro e w1 ⟨v,rfl,hsp,hb1⟩;have HSP:=hid hsp;have HB1:=hid hb1;clear hsp hb1))
      rw[<-HPe.out,HRe.out]
      exact⟨v,rfl,HSP.out.spot,HB.out.trans (HB1.out.mono HB.out.size)⟩
     ·
      rw[if_neg (by decide)]at hat
      by_cases h128:acc.length=128
      ·
       rw[if_pos h128]at hat
       have hRe:R=.error (7,p):=by rw[<-HR.out,HE.out,hat];rfl
       have HRe:=hid hRe
       have t1:((acc.length:Int)==128)=true:=by simp;omega
       clear hat hRe
       go_wp2_with(first
        |(go_at_call 129;(with_reducible refine(HF.out _).mono ?_);rintro e w1 ⟨rfl,rfl⟩)
        |(go_at_call 128;(with_reducible refine(HSp.out _ _ _).mono ?_);rintro e w1 ⟨v,rfl,hsp,hb1⟩;have HSP:=hid hsp;have HB1:=hid hb1;clear hsp hb1))
       rw[<-HPe.out,HRe.out]
       exact⟨v,rfl,HSP.out.spot,HB.out.trans (HB1.out.mono HB.out.size)⟩
      ·
       rw[if_neg h128]at hat
       have t1:((acc.length:Int)==128)=false:=by simp;omega
       have hsl:Sl wr wr.heap.size (some ⟨b,o,none⟩) (u8s bs):=(HS.out.below HB.out).more HB.out.size
       have hmx:((x.toNat:Int)<=hi/\max hi (x.toNat:Int)=hi)\/(¬(x.toNat:Int)<=hi/\max hi (x.toNat:Int)=(x.toNat:Int)):=by omega
       have hxr:=Sect.fol_range hf hi0
       cases hu:Leb.uOf bs (p+1) 32 with
       |none=>
        rw[hu]at hat
        have hRe:R=.error (2,p+1):=by rw[<-HR.out,HE.out,hat];rfl
        have HRe:=hid hRe
        have hsec:=section_none (some ⟨b,o,none⟩) c bs (p+1) wr hsl hc HM.out (by omega) hu
        unfold SecBad at hsec
        rw[show((p+1:Nat):Int)=(p:Int)+1 from rfl]at hsec
        have HSec:=hid hsec
        clear hat hRe hsec hu
        rcases hmx with⟨hmx,-⟩|⟨hmx,-⟩
        all_goals
         go_wp2_with(first
          |(go_at_call 129;(with_reducible refine(HF.out _).mono ?_);rintro e w1 ⟨rfl,rfl⟩))
         with_reducible refine HSec.out.mono ?_
         rintro e w1 ⟨v,rfl,⟨vb,vo,rfl,hv1,hv2⟩,hb1⟩
         have HV:=hid (⟨vb,vo,rfl,hv1,hv2⟩:SpotIs w1 (.iface 115 (.pointer (some ⟨vb,vo,none⟩))) ((p:Int)+1) 2)
         have HB1:=hid (HB.out.trans (hb1.mono HB.out.size))
         clear hv1 hv2 hb1
         go_wp2_with fail
         rw[<-HPe.out,HRe.out]
         exact⟨_,rfl,SpotIs.below HV.out ((zx _ _).alloc (zq _) _),HB1.out.alloc HB1.out.size _⟩
       |some q=>
        obtain⟨k,j⟩:=q
        rw[hu]at hat
        dsimp only at hat
        by_cases hk:bs.length-j<k
        ·
         rw[if_pos hk]at hat
         have hRe:R=.error (2,p+1):=by rw[<-HR.out,HE.out,hat];rfl
         have HRe:=hid hRe
         have hsec:=section_over (some ⟨b,o,none⟩) c bs (p+1) wr hsl hc HM.out (by omega) k j hu hk
         unfold SecBad at hsec
         rw[show((p+1:Nat):Int)=(p:Int)+1 from rfl]at hsec
         have HSec:=hid hsec
         clear hat hRe hsec hu hk
         rcases hmx with⟨hmx,-⟩|⟨hmx,-⟩
         all_goals
          go_wp2_with(first
           |(go_at_call 129;(with_reducible refine(HF.out _).mono ?_);rintro e w1 ⟨rfl,rfl⟩))
          with_reducible refine HSec.out.mono ?_
          rintro e w1 ⟨v,rfl,⟨vb,vo,rfl,hv1,hv2⟩,hb1⟩
          have HV:=hid (⟨vb,vo,rfl,hv1,hv2⟩:SpotIs w1 (.iface 115 (.pointer (some ⟨vb,vo,none⟩))) ((p:Int)+1) 2)
          have HB1:=hid (HB.out.trans (hb1.mono HB.out.size))
          clear hv1 hv2 hb1
          go_wp2_with fail
          rw[<-HPe.out,HRe.out]
          exact⟨_,rfl,SpotIs.below HV.out ((zx _ _).alloc (zq _) _),HB1.out.alloc HB1.out.size _⟩
        ·
         rw[if_neg hk]at hat
         have hk':k<=bs.length-j:=by omega
         have hj:=Leb.uOf_le _ _ _ _ _ hu
         have hjp:=Sect.uOf_ge _ _ _ _ _ hu
         have hsec:=section_ok (some ⟨b,o,none⟩) c bs (p+1) wr hsl hc HM.out (by omega) k j hu hk' hL
         unfold SecGood at hsec
         rw[show((p+1:Nat):Int)=(p:Int)+1 from rfl]at hsec
         obtain⟨ys,hys⟩:∃ys,(bs.drop j).take k=ys:=⟨_,rfl⟩
         have hyl:ys.length=k:=by rw[<-hys];simp;omega
         rw[hys]at hsec hat
         have HSec:=hid hsec
         have HAt:=hid hat
         have HYl:=hid hyl
         have hyl':ys.length<=100000000:=by omega
         clear hat hsec hu hk hys hyl
         rcases hmx with⟨hmx,hme⟩|⟨hmx,hme⟩
         all_goals
          rw[hme]at HAt
          go_wp2_with(first
           |(go_at_call 129;(with_reducible refine(HF.out _).mono ?_);rintro e w1 ⟨rfl,rfl⟩))
          with_reducible refine HSec.out.mono ?_
          rintro e w1 ⟨A5,c5,rfl,ho5⟩
          have HO5:=hid ho5
          have HB1:=hid (HB.out.trans (ho5.below.mono HB.out.size))
          have HB5:Hid (Below wr.heap.size wr w1):=hid ho5.below
          clear ho5
          obtain⟨v,hv⟩:∃v,v=Value.slice A4 acc.length c4:=⟨_,rfl⟩
          rw[<-hv]at HO HNew⊢
          clear hv
          have HNv:Hid (v.ownBlock≠some w1.heap.size):=hid (λe=>by have:=(HO.out.own_lt e).2;have:=HB5.out.size;omega)
          go_wp2_with(first
           |(at_builtin;refine wpList_pushK rfl (.tmp 55) (.tmp 57) _ rfl 40 underlying67 elem_sec (by decide) _ _ _ rfl (HO.out.later (HB5.out.alloc HB5.out.size _)) rfl (by simp) rfl (Sc.one ⟨x.toNat,j,A5,c5,ys⟩) (by rw[zd];omega) (by rw[zd];unfold maxLen;omega) ?_;intro v6 w6 ho6 hk6 hs6;have HO6:=hid ho6;have HK6:=hid hk6;have HS6:=hid hs6;have m1:w6.cell? ⟨w1.heap.size,1,none⟩=some (.int .i64 j):=(zm (hk6 w1.heap.size (by simp) HNv.out).1).trans (zv _ _ _ _ rfl);have m2:w6.cell? ⟨w1.heap.size,2,none⟩=some (.slice A5 ys.length c5):=(zm (hk6 w1.heap.size (by simp) HNv.out).1).trans (zv _ _ _ _ rfl);clear ho6 hk6 hs6))
          go_roundw
          case rel=>
           have hyk:=HYl.out
           refine⟨acc++[⟨x.toNat,j,A5,c5,ys⟩],t++[⟨x.toNat,j,ys⟩],_,j+k,rfl,by rw[hyk];go_num,by omega,by omega,by omega,by omega,hid ?_,by simp;omega,by rw[qd];exact HO6.out,?_,hid ?_⟩
           ·rw[qd,qd,HT.out];rfl
           ·exact gather _ _ (by unfold inI;omega) (by unfold inI;omega) (λg hg=>(HO.out.own_lt hg).2) HB.out.size HNew.out HO5.out ((zx _ _).alloc (zq _) _) HK6.out HS6.out
           ·rw[HE.out,HAt.out,Sect.pre_pre,zz];rfl
          case measure=>simp[intOf];omega
    ·
     go_wp2_with fail
     have hp':p=bs.length:=by omega
     have hRt:R=.ok t:=by
      rw[<-HR.out,HE.out,hp',List.drop_length,Sect.spl_nil]
      simp[Sect.pre]
     obtain⟨A',c',rfl,h1,h2,h3⟩:=secs_of_own ho hnew
     rw[<-HPe.out,hRt]
     exact⟨A',acc,c',rfl,HT.out,h1,h2,h3,ho.below⟩
  ·
   have e:Sect.split bs=.error (2,0):=by
    unfold Sect.split
    rw[if_neg hmg]
   have hne:((bs.take 8)==[0,97,115,109,1,0,0,0])=false:=by simpa[Sect.magic]using hmg
   rw[e]
   unfold SplitR
   clear e hmg
   go_enter func28,ntmps28
   go_wp2_with(first|(go_at_call 128;(with_reducible refine(HSp.out _ _ _).mono ?_);rintro e w1 ⟨v,rfl,hsp,hb1⟩;have HSP:=hid hsp;have HB:=hid hb1;clear hsp hb1))
   go_ret2
   exact⟨v,rfl,HSP.out.spot,HB.out⟩
structure Lies(w0 w:World)(g:Nat)(bs:List UInt8):Prop where
 ge:w0.heap.size<=g
 lt:g<w.heap.size
 cell:∀i,i<bs.length->w.cell? ⟨g,i,none⟩=(u8s bs)[i]?
 fr:∀i,i<bs.length->w.frozen? ⟨g,i,none⟩=false
 below:Below w0.heap.size w0 w
def OwH(w0 w:World)(v:Value)(bs:List UInt8):Prop:=OwB w0 w v bs\/∃g,v=.slice (some ⟨g,0,none⟩) bs.length bs.length/\Lies w0 w g bs
section
variable{w0 w w':World}{v:Value}{bs:List UInt8}{g:Nat}
theorem Lies.later(h:Lies w0 w g bs)(hb:Below w.heap.size w w'):Lies w0 w' g bs:=
 ⟨h.ge,zj h.lt hb.size,λi hi=>(hb.cell (p:=⟨g,i,none⟩) h.lt).trans (h.cell i hi),λi hi=>(hb.frozen (p:=⟨g,i,none⟩) h.lt).trans (h.fr i hi),h.below.trans (hb.mono (zy h.ge (xh h.lt)))⟩
theorem Lies.sl(h:Lies w0 w g bs):Sl w w.heap.size (some ⟨g,0,none⟩) (u8s bs):=λ_=>⟨g,0,rfl,h.lt,λi hi=>by rw[qz];exact h.cell i (by simpa using hi)⟩
theorem Lies.base{w00:World}(h:Lies w0 w g bs)(hb:Below w00.heap.size w00 w0):Lies w00 w g bs:=⟨zy hb.size h.ge,h.lt,h.cell,h.fr,hb.trans (h.below.mono hb.size)⟩
theorem OwB.lies(h:OwB w0 w v bs)(hne:bs≠[]):∃g c,v=.slice (some ⟨g,0,none⟩) bs.length c/\bs.length<=c/\c<=maxLen/\Lies w0 w g bs:=by
 obtain⟨A,c,e,h1,h2,hrow⟩:=OwnK.formB h (by omega)
 rw[ones_length,u8s_length]at e h1
 obtain⟨g,hg,rfl,h3,h4,hc⟩:=hrow (λe=>hne (by
  have:=congrArg List.length e
  rw[ones_length,u8s_length]at this
  exact zc this))
 subst e
 refine⟨g,c,rfl,h1,h2,h3,h4,λi hi=>?_,λi hi=>(by have hr:=h.row;rw[ones_length,u8s_length]at hr;exact hr.frozenAt i),OwnK.below h⟩
 have:=hc i [(u8s bs)[i]'(by rw[u8s_length];exact hi)] (by simp[ones,zb,hi]) 0 (by omega)
 rw[Nat.mul_one,qe]at this
 rw[this,zb (l:=u8s bs) (by rw[u8s_length];exact hi)]
 rfl
theorem OwH.later(h:OwH w0 w v bs)(hb:Below w.heap.size w w'):OwH w0 w' v bs:=by
 rcases h with h|⟨g,e,h⟩
 ·exact .inl (OwB.later h hb)
 ·exact .inr ⟨g,e,h.later hb⟩
theorem OwH.below(h:OwH w0 w v bs):Below w0.heap.size w0 w:=by
 rcases h with h|⟨g,e,h⟩
 ·exact OwB.below h
 ·exact h.below
theorem OwH.lt(h:OwH w0 w v bs){m:Nat}(hv:v.ownBlock=some m):w0.heap.size<=m/\m<w.heap.size:=by
 rcases h with h|⟨g,e,h⟩
 ·exact OwnK.own_lt h hv
 ·
  subst e
  simp[Value.ownBlock]at hv
  subst hv
  exact⟨h.ge,h.lt⟩
theorem OwH.new(h:OwH w0 w v bs){m:Nat}(hm:w.heap.size<=m):v.ownBlock≠some m:=λe=>by
 have:=(h.lt e).2
 omega
theorem OwH.lies(h:OwH w0 w v bs)(hne:bs≠[])(hm:bs.length<=maxLen):∃g c,v=.slice (some ⟨g,0,none⟩) bs.length c/\bs.length<=c/\c<=maxLen/\Lies w0 w g bs:=by
 rcases h with h|⟨g,e,h⟩
 ·exact OwB.lies h hne
 ·exact⟨g,_,e,zq _,hm,h⟩
theorem Lies.const(w:World)(bs:List UInt8)(C:Array Value)(hC:C=(u8s bs).toArray)(e:TypeId)(k:Nat)(hk:k=bs.length)(n:Nat)(hn:n=w.heap.size):Lies w (w.alloc (.cells C e (k,k+1))) n bs:=by
 subst hC hk hn
 have hh:(w.alloc (.cells (u8s bs).toArray e (bs.length,bs.length+1))).heap[w.heap.size]? =some (.cells (u8s bs).toArray e (bs.length,bs.length+1)):=heap_alloc_new w _
 refine⟨zq _,by simp,λi hi=>?_,λi hi=>?_,(zx _ _).alloc (zq _) _⟩
 ·exact(World.cell?_alloc_mark w _ e _ i).trans (by simp)
 ·
  unfold World.frozen?
  rw[hh]
  simp
  omega
end
theorem wpl_head{ops:Array Oper}{rest:List Oper}{o:Oper}{a:Act}{Q:Exit->Act->World->Prop}{w0 w:World}{v:Value}{bs:List UInt8}(hgd:o.guard=none)(s x:Operand)
  (ho:o.op=.call {callee:=.builtin .append,args:=#[s,x],argTypes:=#[35,35]}) {B':Nat} {A:Option Addr} {m c:Nat} (nb:List UInt8) (hs:a.eval s=v) (h:OwH w0 w v bs) (hx:a.eval x=.slice A m c)
  (hr:Sl w B' A (u8s nb)) (hm:nb.length=m) (hne:nb≠[]) (hl:bs.length+m<=200000000)
  (cont:∀v' w',OwB w0 w' v' (bs++nb)->Kp w v w' v'->wpList prog ops Q rest (a.put o.dst v') w'):wpList prog ops Q (o::rest) a w:=by
 rcases h with h|⟨g,e,h⟩
 ·exact wpl_bytes hgd s x ho nb hs h hx hr hm hl cont
 ·
  subst e hm
  obtain⟨b,off,rfl,hb,hc⟩:=hr (λe=>hne (by
   have:=congrArg List.length e
   rw[u8s_length]at this
   exact zc this))
  have hpos:0<nb.length:=by
   rcases jh nb.length with h0|h0
   ·exact absurd (zc h0) hne
   ·exact h0
  obtain⟨i,z,hi,hz,hsz,hyy,hzs⟩:=elem_b
  obtain⟨v',w',hrun,r1,r2⟩:=run_append_arg_grows (P:=prog) w 35 o.type 5 i z 1 1 underlying35 hi hz hsz hyy hzs (by decide) ⟨g,0,none⟩ bs.length bs.length (u8s bs) (by simp)
   (λj u hj=>by
    have hjl:j<bs.length:=by
     rcases qm j (u8s bs).length with h2|h2
     ·simpa using h2
     ·rw[qt h2]at hj;cases hj
    rw[add_at,qz,h.cell j hjl,hj])
   ⟨b,off,none⟩ nb.length c (u8s nb) (by simp)
   (λj u hj=>by
    have hjl:j<(u8s nb).length:=by
     rcases qm j (u8s nb).length with h2|h2
     ·exact h2
     ·rw[qt h2]at hj;cases hj
    rw[add_at,hc j hjl,hj]) (by omega) (by unfold maxLen;omega) (by omega)
  have hown:OwB w w' v' (bs++nb):=by
   refine⟨?_,ones_len _,⟨r2.os,r2.tape,r2.output,r2.size,λb hb=>r2.block b hb (by simp)⟩,r2.size⟩
   rw[flatten_ones,ones_length,u8s_length,zz]
   simpa[u8s]using r1
  refine wpList_plain hgd λ_ hK=>?_
  unfold Oper.wp execOp
  simp only[ho,resolve,invoke,builtin,Sem.run_bind,Sem.run_pure,Result.andThen_ok,xi,qu,je,hs,hx,hrun]
  refine hK _ _ (cont v' w' (OwnK.base hown h.below.size h.below) ⟨λm hm _=>⟨(OwB.below hown).block m hm,OwB.old hown hm⟩,(OwB.below hown).size⟩)
end Go.Proofs.YteoijlfipmaoeaaGreatDoor
