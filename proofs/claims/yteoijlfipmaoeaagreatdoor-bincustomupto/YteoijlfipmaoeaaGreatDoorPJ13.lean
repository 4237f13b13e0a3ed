import Derived.Test.YteoijlfipmaoeaaGreatDoorPJ11
import Derived.Test.YteoijlfipmaoeaaGreatDoorPJ8
set_option linter.unusedVariables false
set_option linter.unusedSimpArgs false
set_option maxRecDepth 100000
set_option maxHeartbeats 8000000
namespace Go.Proofs.YteoijlfipmaoeaaGreatDoor
open Lib (hid)
open Go.RowKit Trx
open Go.Proofs.Tryz
def OwB(w0 w:World)(v:Value)(bs:List UInt8):Prop:=OwnK w0.heap.size w0 w 5 1 v (ones (u8s bs))
structure Kp(w:World)(v:Value)(w':World)(v':Value):Prop where
 keep:∀m,m<w.heap.size->v.ownBlock≠some m->w'.heap[m]? =w.heap[m]?/\v'.ownBlock≠some m
 size:w.heap.size<=w'.heap.size
section
variable{w0 w w' w1 w2:World}{v v' v1 v2:Value}{bs:List UInt8}
theorem Kp.refl_:Kp w v w v:=⟨λ_ _ h=>⟨rfl,h⟩,zq _⟩
theorem Kp.trans(h:Kp w v w1 v1)(h2:Kp w1 v1 w2 v2):Kp w v w2 v2:=by
 refine⟨λm hm hv=>?_,zy h.size h2.size⟩
 obtain⟨e1,e2⟩:=h.keep m hm hv
 obtain⟨e3,e4⟩:=h2.keep m (zj hm h.size) e2
 exact⟨e3.trans e1,e4⟩
theorem Kp.of_below(h:Below w.heap.size w w'):Kp w v w' v:=⟨λm hm hv=>⟨h.block m hm,hv⟩,h.size⟩
theorem Kp.alloc(h:Kp w v w1 v1)(o:Obj):Kp w v (w1.alloc o) v1:=h.trans (.of_below ((zx _ _).alloc (zq _) o))
theorem Kp.drewN(h:Kp w v w1 v1)(n:Nat):Kp w v (w1.drewN n) v1:=⟨h.keep,h.size⟩
theorem Kp.cell(h:Kp w v w' v'){b o:Nat}(hb:b<w.heap.size)(hv:v.ownBlock≠some b):w'.cell? ⟨b,o,none⟩=w.cell? ⟨b,o,none⟩:=zm (h.keep b hb hv).1
theorem OwB.later(h:OwB w0 w v bs)(hb:Below w.heap.size w w'):OwB w0 w' v bs:=OwnK.later h hb
theorem OwB.below(h:OwB w0 w v bs):Below w0.heap.size w0 w:=OwnK.below h
theorem OwB.drewN(h:OwB w0 w v bs)(n:Nat):OwB w0 (w.drewN n) v bs:=OwnK.drewN h n
theorem OwB.new(h:OwB w0 w v bs){m:Nat}(hm:w.heap.size<=m):v.ownBlock≠some m:=λe=>by
 have:=(OwnK.own_lt h e).2
 omega
theorem OwB.old(h:OwB w0 w v bs){m:Nat}(hm:m<w0.heap.size):v.ownBlock≠some m:=λe=>by
 have:=(OwnK.own_lt h e).1
 omega
end
theorem elem_b:ElemK prog 5 1 1:=ElemK.mk_ (z:=.int .u8 0) (by kernel_rfl) rfl
theorem ones_app(a b:List UInt8):ones (u8s (a++b))=ones (u8s a)++ones (u8s b):=by simp[ones,u8s]
theorem u8_ones(bs:List UInt8):∀r∈ones (u8s bs),∀u∈r,u.oneCell'=true:=by
 intro r hr u hu
 obtain⟨x,hx,rfl⟩:=List.mem_map.1 hr
 simp at hu
 subst hu
 obtain⟨z,_,rfl⟩:=List.mem_map.1 hx
 rfl
theorem PutU_e(n:Int)(w:World)(h0:0<=n)(h1:n<18446744073709551616):
  Calls prog 113 #[.int .u64 n] w λe w'=>∃A c,e=.returned (.slice A (eN n).length c)/\Sl w' w'.heap.size A (u8s (eN n))/\Below w.heap.size w w':=by
 have h:=PutU_any n.toNat w (by omega)
 rw[Int.toNat_of_nonneg h0]at h
 have e:eN n=Leb.putU n.toNat:=by unfold eN;rw[show(n%18446744073709551616).toNat=n.toNat by omega]
 rw[e]
 refine h.mono ?_
 rintro e w' ⟨s,rfl,ho⟩
 obtain⟨A,c,rfl,-,-,hs⟩:=ho.bytes
 exact⟨A,c,rfl,hs,ho.below⟩
theorem PutS_e(z:Int)(w:World)(h0: -9223372036854775808<=z)(h1:z<9223372036854775808):
  Calls prog 264 #[.int .i64 z] w λe w'=>∃A c,e=.returned (.slice A (Leb.putS z).length c)/\Sl w' w'.heap.size A (u8s (Leb.putS z))/\Below w.heap.size w w':=by
 refine(PutS_any z w h0 h1).mono ?_
 rintro e w' ⟨s,rfl,ho⟩
 obtain⟨A,c,rfl,-,-,hs⟩:=ho.bytes
 exact⟨A,c,rfl,hs,ho.below⟩
def Wrote(w0 w:World)(v:Value)(bs:List UInt8):Ending->World->Prop:=λe w'=>∃v',e=.returned v'/\OwB w0 w' v' bs/\Kp w v w' v'
theorem putNumber_any(n:Int)(v:Value)(bs:List UInt8)(w0 w:World)(h0:0<=n)(h1:n<4611686018427387904)(ho:OwB w0 w v bs)(hl:bs.length<=100000000):
  Calls prog 262 #[v,.int .i64 n] w (Wrote w0 w v (bs++eN n)):=by
 have hn10:=eN_len n
 have HP:=hid (λw=>PutU_e n w h0 (by omega))
 have HO:=hid ho
 clear ho
 unfold Wrote
 go_enter func262,ntmps262
 go_wp2_with(first
  |(go_at_call 113;(with_reducible refine(HP.out _).mono ?_);rintro e w1 ⟨A1,c1,rfl,hs1,hb1⟩;have HS:=hid hs1;have HB:=hid hb1;clear hs1 hb1)
  |(at_builtin;refine wpList_catK rfl (.tmp 5) (.tmp 8) _ rfl 1 underlying35 elem_b (by decide) rfl (HO.out.later HB.out) rfl HS.out.ones (ones_len _) (by simp) (u8_ones _) (by simp;omega) (by simp;unfold maxLen;omega) ?_;intro v1 w2 ho2 hk2 hs2;rw[<-ones_app]at ho2;have HO2:=hid (show OwB w0 w2 v1 _ from ho2);have HK:=hid ((Kp.of_below HB.out).trans ⟨hk2,hs2⟩);clear ho2 hk2))
 go_ret
 exact⟨v1,rfl,HO2.out,HK.out⟩
theorem resultByte_any(t:Int)(w:World)(h0:0<=t)(h2:t<=2):Calls prog 277 #[.int .i64 t] w λe w'=>e=.returned (.int .u8 (eRes t).toNat)/\w=w':=by
 have:t=0\/t=1\/t=2:=by omega
 rcases this with rfl|rfl|rfl
 all_goals
  go_enter func277,ntmps277
  go_wp2
  go_ret
  exact⟨rfl,rfl⟩
theorem signed_32(v:Int)(w:World)(h0:0<=v)(h1:v<=4294967295):Calls prog 265 #[.int .u64 v,.int .i64 1] w λe w'=>e=.returned (.int .i64 (s32 v))/\w=w':=by
 go_enter func265,ntmps265
 go_wp2
 go_ret
 refine⟨ret_int ?_,rfl⟩
 unfold wrap64 wrap32 s32
 split<;>omega
theorem signed_64(v t:Int)(w:World)(h0:0<=v)(h1:v<=18446744073709551615)(ht:t≠1):Calls prog 265 #[.int .u64 v,.int .i64 t] w λe w'=>e=.returned (.int .i64 (s64 v))/\w=w':=by
 go_enter func265,ntmps265
 go_wp2
 go_ret
 refine⟨ret_int ?_,rfl⟩
 unfold wrap64 s64
 split<;>omega
def bh(b k:Int):Int:=if b=14 then 5 else if b=15 then 0 else if b=17 then 3 else if k=2 then 1 else if k=3\/k=4\/k=6 then 2 else if k=7\/k=8 then 4 else if k=9 then 6 else if k=10 then 7 else 0
theorem behind_any(b k g y:Int)(nm:ByteArray)(tv:Value)(sn:Bool)(w:World):Calls prog 260 #[.agg #[.int .i64 b,.string nm,.int .i64 k,tv,.int .i64 g,.int .i64 y,.bool sn]] w λe w'=>e=.returned (.int .i64 (bh b k))/\Below w.heap.size w w':=by
 go_enter func260,ntmps260
 go_wp2
 all_goals
  go_ret
  refine⟨ret_int ?_,(zx _ _).alloc (zq _) _⟩
  simp only[beq_iff_eq,beq_eq_false_iff_ne,ne_eq]at *
  unfold bh
  (repeat' split)<;>omega
def LbL(w0:World)(v:Value)(w:World)(bs:List UInt8)(L:List Int)(x i:Value)(wr:World):Prop:=
 ∃j:Nat,j<=L.length/\i=.int .i64 j/\OwB w0 wr x (bs++(L.take j).flatMap eN)/\Kp w v wr x
theorem putLabels_any(L:List Int)(A:Option Addr)(c:Nat)(v:Value)(bs:List UInt8)(w0 w:World)(hne:L≠[])(hn:L.all num32=true)(hL:Sl w0 w0.heap.size A (n64s L))(ho:OwB w0 w v bs)(hl:bs.length+10 * L.length<=90000000):
  Calls prog 263 #[v,.slice A L.length c] w (Wrote w0 w v (bs++(eN ((L.length:Int)-1)++L.flatMap eN))):=by
 have hpos:0<L.length:=List.length_pos_iff.2 hne
 have hb:=ho.below
 have HO:=hid ho
 have HL:=hid hL
 have HN:=hid hn
 have h10:=eN_len ((L.length:Int)-1)
 have HP:=hid (λn v bs w h0 h1 ho hl=>putNumber_any n v bs w0 w h0 h1 ho hl)
 clear ho hL hn hb
 unfold Wrote
 go_enter func263,ntmps263
 go_wp2_with(first
  |(go_at_call 262;(with_reducible refine(HP.out _ _ _ _ (by omega) (by omega) HO.out (by omega)).mono ?_);rintro e w1 ⟨v1,rfl,ho1,hk1⟩;have HO1:=hid ho1;have HK1:=hid hk1;clear ho1 hk1))
 go_loopw [0,14] (λx i wr=>LbL w0 v w (bs++eN ((L.length:Int)-1)) L x i wr) (λ_ i _=>L.length-(intOf i).toNat)
 case atStart=>exact⟨0,qw _,rfl,by simpa using HO1.out,HK1.out⟩
 case round=>
  obtain⟨j,hj,rfl,hoj,hkj⟩:=hrel
  have HOj:=hid hoj
  have HKj:=hid hkj
  have hbel:=hoj.below
  by_cases hlt:j<L.length
  ·
   obtain⟨b,o,rfl,hbl,hc⟩:=HL.out (by intro e;have:=congrArg List.length e;exact hne (by simpa using this))
   have q:=(hbel.cell (p:=⟨b,o+j,none⟩) hbl).trans (hc j (by simpa using hlt))
   have hq:(n64s L)[j]? =some (.int .i64 L[j]):=by simp[n64s,hlt]
   rw[hq]at q
   have hb':=zj hbl hbel.size
   have hnj:=(num32_iff _).1 (List.all_eq_true.1 HN.out L[j] (jf hlt))
   have hfl:=flat_len (L.take j)
   have htl:(L.take j).length<=j:=List.length_take_le _ _
   have hlen:(bs++eN ((L.length:Int)-1)++(L.take j).flatMap eN).length<=100000000:=by simp only[zz];omega
   have HLn:=hid hlen
   have n0:=hnj.1
   have n1:L[j]<4611686018427387904:=Int.lt_of_le_of_lt hnj.2 (by decide)
   have HT:Hid (L.take (j+1)=L.take j++[L[j]]):=hid (by rw[qs];simp[hlt])
   obtain⟨z,hz⟩:∃z,z=L[j]:=⟨_,rfl⟩
   rw[<-hz]at q n0 n1 HT
   clear hz hnj hoj hkj hbel hc hfl htl hlen hq
   go_wp2_with(first
    |(go_at_call 262;(with_reducible refine(HP.out _ _ _ _ (by omega) (by omega) HOj.out HLn.out).mono ?_);rintro e w2 ⟨v2,rfl,ho2,hk2⟩;have HO2:=hid ho2;have HK2:=hid hk2;clear ho2 hk2))
   go_roundw
   case rel=>exact⟨j+1,by omega,by go_num,by rw[HT.out,List.flatMap_append,<-zt];simpa using HO2.out,HKj.out.trans HK2.out⟩
   case measure=>simp[intOf];omega
  ·
   clear hoj hkj hbel
   have ht:L.take j=L:=zo (by omega)
   rw[ht]at HOj
   go_wp2_with fail
   go_ret
   exact⟨_,rfl,by rw[<-zt];exact HOj.out,HKj.out⟩
section
variable{P:Program}{B:Nat}{w0 w:World}{e:TypeId}{k:Nat}{v:Value}{rs:List (List Value)}
theorem run_catK(t ty:TypeId)(y:Nat)(ht:P.underlying t=some (.slice e))(hE:ElemK P e k y)(hk:0<k)
  {B':Nat} {A:Option Addr} {c:Nat} {news:List (List Value)} (h:OwnK B w0 w e k v rs) (hr:RowsAt w B' A k news) (hlen:∀r∈news,r.length=k)
  (h1:∀r∈news,∀u∈r,u.oneCell'=true) (hby:(rs.length+news.length) * y<=140737488355328) (hmx:rs.length+news.length<=maxLen):
  ∃v' w',(Builtin.append_ #[t,t] ty #[v,.slice A news.length c]).run P w=.ok v' w'/\OwnK B w0 w' e k v' (rs++news)/\(∀g,g<w.heap.size->v.ownBlock≠some g->w'.heap[g]? =w.heap[g]?/\v'.ownBlock≠some g)/\w.heap.size<=w'.heap.size:=by
 obtain⟨i,z,hi,hz,hsz,hyy,hzs⟩:=hE
 have hle:=h.le
 rcases A with _|ad
 ·
  have hn:news=[]:=by
   rcases Classical.em (news=[])with h0|h0
   ·exact h0
   ·obtain⟨_,_,h2,_⟩:=hr h0;cases h2
  subst hn
  exact⟨v,w,run_append_nothingK w B t ty e i k ht hi v _ _ h.row c,by simpa using h,λg _ hg=>⟨rfl,hg⟩,zq _⟩
 ·
  have hcells:∀j u,news.flatten[j]? =some u->w.cell? (ad.add j)=some u:=by
   intro j u hj
   have hjl:j<news.length * k:=by
    rw[<-flatten_len hlen]
    rcases qm j news.flatten.length with h2|h2
    ·exact h2
    ·rw[qt h2]at hj;cases hj
   have hil:j / k<news.length:=Nat.div_lt_of_lt_mul (by rw[jr];exact hjl)
   have hgi:news[j / k]? =some news[j / k]:=zb hil
   obtain⟨b,off,h2,_,hc⟩:=hr (λe=>by simp[e]at hil)
   injection h2 with h2
   subst h2
   have hmod:j%k<k:=kj _ hk
   have hjj:j / k * k+j%k=j:=by rw[jr];exact Nat.div_add_mod j k
   rw[add_at]
   have h3:=hc (j / k) _ hgi (j%k) hmod
   rw[ju,hjj]at h3
   rw[h3,<-flatten_get hlen hgi hmod,hjj,hj]
  have hone:∀u∈news.flatten,u.oneCell'=true:=by
   intro u hu
   obtain⟨r,hr1,hr2⟩:=List.mem_flatten.1 hu
   exact h1 r hr1 u hr2
  obtain⟨v',w',hrun,h2,h3,_,h5⟩:=run_append_own_at (P:=P) w B t ty e i z k y ht hi hz hsz hyy hzs hk v rs.length rs.flatten h.row ad news.length c news.flatten (flatten_len hlen) hcells hone hmx hby h.le
  refine⟨v',w',hrun,⟨by simpa using h2,λr hr'=>?_,h.below.grown h3 h.le (λg hg'=>(h.row.lt g hg').1),zy h.le h3.size⟩,λg hg hne=>⟨h3.block g hg (λe=>hne e.symm),?_⟩,h3.size⟩
  ·
   rcases List.mem_append.1 hr' with h6|h6
   ·exact h.len r h6
   ·exact hlen r h6
  ·
   rcases h5 with h5|h5
   ·rw[h5];exact hne
   ·rw[h5];simp;omega
end
theorem Sl.byte{w:World}{n:Nat}{b:Nat}{x:UInt8}(h:w.cell? ⟨n,0,none⟩=some (.int .u8 b))(hx:x.toNat=b):Sl w w.heap.size (some ⟨n,0,none⟩) (u8s [x]):=λ_=>by
 subst hx
 exact⟨n,0,rfl,zn _ _ h,λi hi=>by
  have:i=0:=by simpa using hi
  subst this
  rw[qz,h]
  rfl⟩
theorem Sl.newbyte(w:World)(n:Int)(x:UInt8)(h:(x.toNat:Int)=n)(e:TypeId)(m:Nat)(hm:m=w.heap.size):Sl (w.alloc (.cells #[.int .u8 n] e)) (w.alloc (.cells #[.int .u8 n] e)).heap.size (some ⟨m,0,none⟩) (u8s [x]):=by
 subst hm
 exact Sl.byte (b:=x.toNat) ((zv _ _ _ _ rfl).trans (by rw[h];rfl)) rfl
theorem op_bytes{o:Oper}{a:Act}{K:Act->World->Prop}{Q:Exit->Act->World->Prop}{w0 w:World}{v:Value}{bs:List UInt8}(s x:Operand)
  (ho:o.op=.call {callee:=.builtin .append,args:=#[s,x],argTypes:=#[35,35]}) {B':Nat} {A:Option Addr} {m c:Nat} (nb:List UInt8) (hs:a.eval s=v) (h:OwB w0 w v bs) (hx:a.eval x=.slice A m c)
  (hr:Sl w B' A (u8s nb)) (hm:nb.length=m) (hl:bs.length+m<=200000000)
  (cont:∀v' w',OwB w0 w' v' (bs++nb)->Kp w v w' v'->K (a.put o.dst v') w'):Oper.wp prog o a w K Q:=by
 subst hm
 obtain⟨v',w',hrun,h2,h3,h4⟩:=run_catK (P:=prog) (c:=c) 35 o.type 1 underlying35 elem_b (by decide) h hr.ones (ones_len _) (u8_ones _) (by simp;omega) (by simp;unfold maxLen;omega)
 simp only[ones_length,u8s_length]at hrun
 rw[<-ones_app]at h2
 unfold Oper.wp execOp
 simp only[ho,resolve,invoke,builtin,Sem.run_bind,Sem.run_pure,Result.andThen_ok,xi,qu,je,hs,hx,hrun]
 exact cont v' w' h2 ⟨h3,h4⟩
theorem wpl_bytes{ops:Array Oper}{rest:List Oper}{o:Oper}{a:Act}{Q:Exit->Act->World->Prop}{w0 w:World}{v:Value}{bs:List UInt8}(hgd:o.guard=none)(s x:Operand)
  (ho:o.op=.call {callee:=.builtin .append,args:=#[s,x],argTypes:=#[35,35]}) {B':Nat} {A:Option Addr} {m c:Nat} (nb:List UInt8) (hs:a.eval s=v) (h:OwB w0 w v bs) (hx:a.eval x=.slice A m c)
  (hr:Sl w B' A (u8s nb)) (hm:nb.length=m) (hl:bs.length+m<=200000000)
  (cont:∀v' w',OwB w0 w' v' (bs++nb)->Kp w v w' v'->wpList prog ops Q rest (a.put o.dst v') w'):wpList prog ops Q (o::rest) a w:=by
 refine wpList_plain hgd λ_ hK=>?_
 exact op_bytes s x ho nb hs h hx hr hm hl λv' w' h1 h2=>hK _ _ (cont v' w' h1 h2)
theorem wanted_yes'{c:Prop}[Decidable c]{A B:Prop}(h:c)(k:A):if c then A else B:=by rw[if_pos h];exact k
def PutsL(w0:World)(f:Fo)(A:Option Addr)(c:Nat):Prop:=
 ∀(v:Value) (bs:List UInt8) (w:World),OwB w0 w v bs->bs.length+24 * wt f<=60000000->Calls prog 229 #[v,.slice A (len f) c] w (Wrote w0 w v (bs++enc f))
@[reducible] def ndV(n:Nd)(p:Pl):Value:=.agg #[.int .i64 n.op,.int .i64 n.a,.int .i64 n.b,.int .u64 n.v,.int .i64 n.t,.slice p.AL n.L.length p.cL,.slice p.Ab (len n.body) p.cb,.slice p.Ae (len n.els) p.ce,.bool n.he]
theorem Kp.cell'{w w':World}{v v' x:Value}{b o:Nat}(h:Kp w v w' v')(hv:v.ownBlock≠some b)(hc:w.cell? ⟨b,o,none⟩=some x):w'.cell? ⟨b,o,none⟩=some x:=
 (h.cell (zn _ _ hc) hv).trans hc
theorem Kp.own{w w':World}{v v':Value}{b:Nat}(h:Kp w v w' v')(hb:b<w.heap.size)(hv:v.ownBlock≠some b):v'.ownBlock≠some b:=(h.keep b hb hv).2
theorem putBlock_any(n:Nd)(p:Pl)(v:Value)(bs:List UInt8)(w0 w:World)(h0:0<=n.t)(h2:n.t<=2)(hB:PutsL w0 n.body p.Ab p.cb)(hE:PutsL w0 n.els p.Ae p.ce)(ho:OwB w0 w v bs)(e2:(enc n.body).length<=24 * wt n.body)(e3:(enc n.els).length<=24 * wt n.els)(hl:bs.length+24 * wt n.body+24 * wt n.els+10<=60000000):
  Calls prog 261 #[v,ndV n p] w (Wrote w0 w v (bs++(eRes n.t::(enc n.body++((if n.he then 5::enc n.els else[])++[11]))))):=by
 have HB:=hid hB
 have HE:=hid hE
 have HO:=hid ho
 have HR:=hid (λw=>resultByte_any n.t w h0 h2)
 have hnew:v.ownBlock≠some w.heap.size:=ho.new (zq _)
 have HNew:=hid hnew
 clear hB hE ho hnew
 unfold Wrote
 obtain⟨x,hx⟩:∃x,x=eRes n.t:=⟨_,rfl⟩
 rw[<-hx]at HR⊢
 clear hx
 obtain⟨tl,htl⟩:∃tl:List UInt8,tl=((if n.he then 5::enc n.els else[])++[11]):=⟨_,rfl⟩
 rw[<-htl]
 have HT:=hid htl
 clear htl
 go_enter func261,ntmps261
 go_wp2_with fail
 obtain⟨W0,hW0⟩:∃W0:World,W0=w.alloc (.cells #[.int .i64 n.op,.int .i64 n.a,.int .i64 n.b,.int .u64 n.v,.int .i64 n.t,.slice p.AL n.L.length p.cL,.slice p.Ab (len n.body) p.cb,.slice p.Ae (len n.els) p.ce,.bool n.he] 59):=⟨_,rfl⟩
 have hbW:Below w.heap.size w W0:=by rw[hW0];exact(zx _ _).alloc (zq _) _
 have hltW:w.heap.size<W0.heap.size:=by rw[hW0];simp
 have hcW:∀i,W0.cell? ⟨w.heap.size,i,none⟩=(#[.int .i64 n.op,.int .i64 n.a,.int .i64 n.b,.int .u64 n.v,.int .i64 n.t,.slice p.AL n.L.length p.cL,.slice p.Ab (len n.body) p.cb,.slice p.Ae (len n.els) p.ce,.bool n.he]:Array Value)[i]?:=λi=>by rw[hW0];exact zv _ _ _ _ rfl
 have c4:W0.cell? ⟨w.heap.size,4,none⟩=some (.int .i64 n.t):=hcW 4
 have c6:W0.cell? ⟨w.heap.size,6,none⟩=some (.slice p.Ab (len n.body) p.cb):=hcW 6
 have c7:W0.cell? ⟨w.heap.size,7,none⟩=some (.slice p.Ae (len n.els) p.ce):=hcW 7
 have c8:W0.cell? ⟨w.heap.size,8,none⟩=some (.bool n.he):=hcW 8
 rw[<-hW0]
 clear hW0 hcW
 have HO0:=hid ((HO.out.later hbW).drewN 1)
 have HK0:=hid ((Kp.of_below (v:=v) hbW).drewN 1)
 refine wp_region_held_drew (S:=λw'=>w'.cell? ⟨w.heap.size,4,none⟩=some (.int .i64 n.t)/\w'.cell? ⟨w.heap.size,6,none⟩=some (.slice p.Ab (len n.body) p.cb)) (by kernel_rfl) ⟨c4,c6⟩ (λhHeld=>?_)
 obtain⟨W1,hW1⟩:∃W1:World,W1=W0.drew:=⟨_,rfl⟩
 have e1:W0.drewN 1=W1:=by rw[hW1];rfl
 rw[e1]at HO0 HK0
 have d4:W1.cell? ⟨w.heap.size,4,none⟩=some (.int .i64 n.t):=by rw[hW1];exact c4
 have d6:W1.cell? ⟨w.heap.size,6,none⟩=some (.slice p.Ab (len n.body) p.cb):=by rw[hW1];exact c6
 have d7:W1.cell? ⟨w.heap.size,7,none⟩=some (.slice p.Ae (len n.els) p.ce):=by rw[hW1];exact c7
 have d8:W1.cell? ⟨w.heap.size,8,none⟩=some (.bool n.he):=by rw[hW1];exact c8
 have hlt1:w.heap.size<W1.heap.size:=by rw[hW1];exact hltW
 rw[<-hW1]at hHeld⊢
 clear hW1 e1 c4 c6 c7 c8 hltW hbW
 refine rtk 0 5 ?_
 refine rtk 1 6 ?_
 refine rtk 2 7 ?_
 refine rtk 6 11 ?_
 refine rtk 7 12 ?_
 refine rcl 3 λK hK=>?_
 go_simp
 refine(HR.out _).mono ?_
 rintro e w' ⟨rfl,rfl⟩
 go_wp2_with fail
 refine rbk hK ⟨d4,d6⟩ λhHeld=>?_;clear hK K
 refine rcl 4 λK hK=>?_
 go_simp
 refine rbk hK ⟨(zg _ _ _ hlt1).trans d4,(zg _ _ _ hlt1).trans d6⟩ λhHeld=>?_;clear hK K
 refine rcl 5 λK hK=>?_
 refine wanted_yes' (by rfl) ?_
 refine op_bytes (.tmp 5) (.tmp 9) rfl [x] rfl (HO0.out.later ((zx _ _).alloc (zq _) _)) rfl (Sl.byte (b:=x.toNat) (zv _ _ _ _ rfl) rfl) rfl (by omega) ?_
 intro v1 W2 ho2 hk2
 have HO2:=hid ho2
 have f4:=hk2.cell' HNew.out ((zg _ _ _ hlt1).trans d4)
 have f6:=hk2.cell' HNew.out ((zg _ _ _ hlt1).trans d6)
 have f7:=hk2.cell' HNew.out ((zg _ _ _ hlt1).trans d7)
 have f8:=hk2.cell' HNew.out ((zg _ _ _ hlt1).trans d8)
 have HN2:=hid (hk2.own (by simp;omega) HNew.out)
 have HK2:=hid ((HK0.out.alloc _).trans hk2)
 have hlt2:w.heap.size<W2.heap.size:=zj hlt1 (zy (by simp) hk2.size)
 clear ho2 hk2 d4 d6 d7 d8 hlt1
 refine rbk hK ⟨f4,f6⟩ λhHeld=>?_;clear hK K
 refine rcl 8 λK hK=>?_
 go_simp
 refine(HB.out v1 (bs++[x]) _ HO2.out (by simp;omega)).mono ?_
 rintro e W3 ⟨v2,rfl,ho3,hk3⟩
 have HO3:=hid ho3
 have g4:=hk3.cell' HN2.out f4
 have g6:=hk3.cell' HN2.out f6
 have g7:=hk3.cell' HN2.out f7
 have g8:=hk3.cell' HN2.out f8
 have HN3:=hid (hk3.own hlt2 HN2.out)
 have HK3:=hid (HK2.out.trans hk3)
 have hlt3:w.heap.size<W3.heap.size:=zj hlt2 hk3.size
 clear ho3 hk3 f4 f6 f7 f8 hlt2
 go_wp2_with fail
 refine rbk hK ⟨g4,g6⟩ λhHeld=>?_;clear hK K
 refine rtk 9 0 ?_
 refine wpAnyH_done (by kernel_rfl) ?_ _
 clear hHeld
 have hl3:(bs++[x]++enc n.body).length<=70000001:=by simp only[zz,qg];omega
 have HL3:=hid hl3
 clear hl3
 by_cases hh:n.he=true
 ·
  rw[hh]at g8
  go_wp2_with fail
  refine wp_region_held_drew (S:=λw'=>w'.cell? ⟨w.heap.size,7,none⟩=some (.slice p.Ae (len n.els) p.ce)) (by kernel_rfl) g7 (λhHeld=>?_)
  have HO3':=hid (HO3.out.drewN 1)
  have HK3':=hid (HK3.out.drewN 1)
  obtain⟨W4,hW4⟩:∃W4:World,W4=W3.drew:=⟨_,rfl⟩
  have e1:W3.drewN 1=W4:=by rw[hW4];rfl
  rw[e1]at HO3' HK3'
  have d7:W4.cell? ⟨w.heap.size,7,none⟩=some (.slice p.Ae (len n.els) p.ce):=by rw[hW4];exact g7
  have hlt4:w.heap.size<W4.heap.size:=by rw[hW4];exact hlt3
  rw[<-hW4]at hHeld⊢
  clear hW4 e1 g4 g6 g7 g8 hlt3
  refine rtk 0 16 ?_
  refine rtk 3 19 ?_
  refine rtk 4 20 ?_
  refine rcl 1 λK hK=>?_
  go_simp
  refine rbk hK ((zg _ _ _ hlt4).trans d7) λhHeld=>?_;clear hK K
  refine rcl 2 λK hK=>?_
  refine wanted_yes' (by rfl) ?_
  refine op_bytes (.tmp 16) (.tmp 17) rfl [5] rfl (HO3'.out.later ((zx _ _).alloc (zq _) _)) rfl (Sl.byte (b:=5) (zv _ _ _ _ rfl) rfl) rfl (by have:=HL3.out;omega) ?_
  intro v3 W5 ho5 hk5
  have HO5:=hid ho5
  have f7:=hk5.cell' HN3.out ((zg _ _ _ hlt4).trans d7)
  have HN5:=hid (hk5.own (by simp;omega) HN3.out)
  have HK5:=hid ((HK3'.out.alloc _).trans hk5)
  have hlt5:w.heap.size<W5.heap.size:=zj hlt4 (zy (by simp) hk5.size)
  clear ho5 hk5 d7 hlt4
  refine rbk hK f7 λhHeld=>?_;clear hK K
  refine rcl 5 λK hK=>?_
  go_simp
  refine(HE.out v3 (bs++[x]++enc n.body++[5]) _ HO5.out (by simp;omega)).mono ?_
  rintro e W6 ⟨v4,rfl,ho6,hk6⟩
  have HO6:=hid ho6
  have g7:=hk6.cell' HN5.out f7
  have HK6:=hid (HK5.out.trans hk6)
  clear ho6 hk6 f7
  go_wp2_with fail
  refine rbk hK g7 λhHeld=>?_;clear hK K
  refine rtk 6 0 ?_
  refine wpAnyH_done (by kernel_rfl) ?_ _
  clear hHeld
  have hl6:(bs++[x]++enc n.body++[5]++enc n.els).length<=70000010:=by simp only[zz,qg];omega
  have HL6:=hid hl6
  clear hl6
  go_wp2_with(first|(at_builtin;refine wpl_bytes rfl (.tmp 22) (.tmp 23) rfl [11] rfl (HO6.out.later ((zx _ _).alloc (zq _) _)) rfl (Sl.byte (b:=11) (zv _ _ _ _ rfl) rfl) rfl (by have:=HL6.out;omega) ?_;intro v7 W7 ho7 hk7;have HO7:=hid ho7;have HK7:=hid ((HK6.out.alloc _).trans hk7);clear ho7 hk7))
  go_ret
  refine⟨_,rfl,?_,HK7.out⟩
  have:=HO7.out
  rw[HT.out,hh,if_pos rfl]
  simpa[zt]using this
 ·
  have hh':n.he=false:=by simpa using hh
  rw[hh']at g8
  clear hh
  go_wp2_with(first|(at_builtin;refine wpl_bytes rfl (.tmp 22) (.tmp 23) rfl [11] rfl (HO3.out.later ((zx _ _).alloc (zq _) _)) rfl (Sl.byte (b:=11) (zv _ _ _ _ rfl) rfl) rfl (by have:=HL3.out;omega) ?_;intro v7 W7 ho7 hk7;have HO7:=hid ho7;have HK7:=hid ((HK3.out.alloc _).trans hk7);clear ho7 hk7))
  go_ret
  refine⟨_,rfl,?_,HK7.out⟩
  have:=HO7.out
  rw[HT.out,hh',if_neg (by simp)]
  simpa[zt]using this
theorem nm_gap(op:Int)(h0:5<=op)(h1:op<=11):knd op=0:=by
 have:op=5\/op=6\/op=7\/op=8\/op=9\/op=10\/op=11:=by omega
 rcases this with rfl|rfl|rfl|rfl|rfl|rfl|rfl<;>decide +kernel
theorem kd_three(op:Int):Opx.kd op=3↔5<=op/\op<=15:=by
 obtain⟨k,hk⟩:∃k,Opx.kd op=k:=⟨_,rfl⟩
 rw[hk]
 unfold Opx.kd at hk
 repeat' split at hk
 all_goals omega
theorem bh_eq(op:Int)(h:knd op≠0):bh op (Opx.kd op)=if knd op=2 then 1 else if knd op=7\/knd op=8 then 4 else if knd op=9 then 6 else if op=65\/op=66 then 7 else if op=14 then 5 else if op=17 then 3 else if knd op=4\/knd op=6\/op=12\/op=13 then 2 else 0:=by
 obtain⟨d2,d4,d6,d7,d8,d9,d10⟩:=kd_iff op
 have d3:=kd_three op
 have hg:¬(5<=op/\op<=11):=λhh=>h (nm_gap op hh.1 hh.2)
 rw[knd_kd h]
 generalize Opx.kd op=k at *
 unfold bh
 repeat' split
 all_goals omega
theorem gv_65:Opx.gv 65=1:=by decide +kernel
theorem gv_66:Opx.gv 66=2:=by decide +kernel
theorem knd_nm{op:Int}(h:knd op≠0):Opx.nm op≠[]:=λe=>h (by unfold knd;rw[e];rfl)
theorem keep_two{w1 W2:World}{X:Nat}{c9 c7:Array Value}{t:TypeId}{o:Obj}{v v1:Value}(hk:Kp ((w1.alloc (.cells c7 t)).alloc o) v W2 v1)(hv:v.ownBlock≠some X)(hv':v.ownBlock≠some w1.heap.size)(h9:∀i,w1.cell? ⟨X,i,none⟩=c9[i]?)(hX:X<w1.heap.size):
  (∀i,W2.cell? ⟨X,i,none⟩=c9[i]?)/\(∀i,W2.cell? ⟨w1.heap.size,i,none⟩=c7[i]?)/\X<W2.heap.size/\w1.heap.size<W2.heap.size/\v1.ownBlock≠some X/\v1.ownBlock≠some w1.heap.size:=by
 have hs:=hk.size
 simp at hs
 refine⟨λi=>?_,λi=>?_,by omega,by omega,hk.own (by simp;omega) hv,hk.own (by simp;omega) hv'⟩
 ·rw[hk.cell (by simp;omega) hv,zg _ _ _ (by simp;omega),zg _ _ _ hX,h9]
 ·
  rw[hk.cell (by simp;omega) hv',zg _ _ _ (by simp)]
  exact zv _ _ _ _ rfl
theorem nine_of{w w1:World}{c9:Array Value}{t:TypeId}(h:Below (w.alloc (.cells c9 t)).heap.size (w.alloc (.cells c9 t)) w1):(∀i,w1.cell? ⟨w.heap.size,i,none⟩=c9[i]?)/\w.heap.size<w1.heap.size/\Below w.heap.size w w1:=
 ⟨λi=>(h.cell (p:=⟨w.heap.size,i,none⟩) (by simp)).trans (zv _ _ _ _ rfl),by have:=h.size;simp at this;omega,bel_alloc h⟩
theorem ca7{w:World}{X:Nat}{v0 v1 v2 v3 v4 v5 v6:Value}(h:∀i,w.cell? ⟨X,i,none⟩=(#[v0,v1,v2,v3,v4,v5,v6]:Array Value)[i]?):w.cell? ⟨X,0,none⟩=some v0/\w.cell? ⟨X,1,none⟩=some v1/\w.cell? ⟨X,2,none⟩=some v2/\w.cell? ⟨X,3,none⟩=some v3/\w.cell? ⟨X,4,none⟩=some v4/\w.cell? ⟨X,5,none⟩=some v5/\w.cell? ⟨X,6,none⟩=some v6:=⟨h 0,h 1,h 2,h 3,h 4,h 5,h 6⟩
theorem ca9{w:World}{X:Nat}{v0 v1 v2 v3 v4 v5 v6 v7 v8:Value}(h:∀i,w.cell? ⟨X,i,none⟩=(#[v0,v1,v2,v3,v4,v5,v6,v7,v8]:Array Value)[i]?):w.cell? ⟨X,0,none⟩=some v0/\w.cell? ⟨X,1,none⟩=some v1/\w.cell? ⟨X,2,none⟩=some v2/\w.cell? ⟨X,3,none⟩=some v3/\w.cell? ⟨X,4,none⟩=some v4/\w.cell? ⟨X,5,none⟩=some v5/\w.cell? ⟨X,6,none⟩=some v6/\w.cell? ⟨X,7,none⟩=some v7/\w.cell? ⟨X,8,none⟩=some v8:=⟨h 0,h 1,h 2,h 3,h 4,h 5,h 6,h 7,h 8⟩
theorem hlook{n:Nd}{v:Value}{bs:List UInt8}{w0 w:World}(hN:Nam w0)(hk:knd n.op≠0)(ho:OwB w0 w v bs):Hid (∀o,Calls prog 256 #[.int .i64 n.op] (w.alloc o) λe w'=>∃At mt ct nmv yv sv,e=.returned (.tuple #[.agg #[.int .i64 n.op,.string nmv,.int .i64 (Opx.kd n.op),.slice At mt ct,.int .i64 (Opx.gv n.op),.int .i64 yv,.bool sv],.nilIface])/\Below (w.alloc o).heap.size (w.alloc o) w'):=hid λo=>by
 have hb:Below w0.heap.size w0 (w.alloc o):=ho.below.trans (((zx _ _).alloc (zq _) o).mono ho.below.size)
 refine(Look_op n.op _ (hN.below hb) (knd_nm hk) (knd_flt hk)).mono ?_
 rintro e w' ⟨A,c,rfl,ho'⟩
 exact⟨_,_,_,_,_,_,rfl,ho'.below⟩
end Go.Proofs.YteoijlfipmaoeaaGreatDoor
namespace Go.Proofs.YteoijlfipmaoeaaGreatDoor.Leb
theorem uOf_drop(bs:List UInt8)(k bits:Nat):uOf bs k bits=(uOf (bs.drop k) 0 bits).map λx=>(x.1,k+x.2):=by
 unfold uOf
 rw[xx]
 split
 ·rfl
 ·
  rename_i j hj
  obtain⟨j1,-,-,-⟩:=lenOf_of_some _ _ _ hj
  have e:(bs.drop k)[0+j-1]? =bs[k+j-1]?:=by rw[jk];congr 1;omega
  rw[e]
  split
  ·rfl
  ·simp
theorem sOf_drop(bs:List UInt8)(k bits:Nat):sOf bs k bits=(sOf (bs.drop k) 0 bits).map λx=>(x.1,k+x.2):=by
 unfold sOf
 rw[xx]
 split
 ·rfl
 ·
  rename_i j hj
  obtain⟨j1,-,-,-⟩:=lenOf_of_some _ _ _ hj
  have e:(bs.drop k)[0+j-1]? =bs[k+j-1]?:=by rw[jk];congr 1;omega
  rw[e]
  split
  ·rfl
  ·simp
end Go.Proofs.YteoijlfipmaoeaaGreatDoor.Leb
namespace Go.Proofs.YteoijlfipmaoeaaGreatDoor
open Lib (hid)
open Go.RowKit Trx
open Go.Proofs.Tryz
structure Kx(M:Nat->Prop)(w w':World):Prop where
 os:w'.os=w.os
 tape:w'.tape=w.tape
 output:w'.output=w.output
 size:w.heap.size<=w'.heap.size
 block:∀b,b<w.heap.size->¬M b->w'.heap[b]? =w.heap[b]?
section
variable{M M':Nat->Prop}{w w' w1 w2:World}
theorem Kx.refl_:Kx M w w:=⟨rfl,rfl,rfl,zq _,λ_ _ _=>rfl⟩
theorem Kx.trans'(h:Kx M w w1)(h2:Kx M' w1 w2)(hM:∀b,M' b->M b\/w.heap.size<=b):Kx M w w2:=by
 refine⟨h2.os.trans h.os,h2.tape.trans h.tape,h2.output.trans h.output,zy h.size h2.size,λb hb hm=>?_⟩
 rw[h2.block b (zj hb h.size) (λhx=>by rcases hM b hx with h3|h3;exact hm h3;omega),h.block b hb hm]
theorem Kx.trans(h:Kx M w w1)(h2:Kx M w1 w2):Kx M w w2:=h.trans' h2 λ_ hb=>.inl hb
theorem Kx.of_below(h:Below w.heap.size w w'):Kx M w w':=⟨h.os,h.tape,h.output,h.size,λb hb _=>h.block b hb⟩
theorem Kx.alloc(h:Kx M w w1)(o:Obj):Kx M w (w1.alloc o):=h.trans (.of_below ((zx _ _).alloc (zq _) o))
theorem Kx.drewN(h:Kx M w w1)(n:Nat):Kx M w (w1.drewN n):=⟨h.os,h.tape,h.output,h.size,h.block⟩
theorem Kx.setCell(h:Kx M w w1){p:Addr}(hp:M p.block\/w.heap.size<=p.block)(u:Value):Kx M w (w1.setCell p u):=by
 refine⟨by simpa[World.setCell]using h.os,by simpa[World.setCell]using h.tape,by simpa[World.setCell]using h.output,by simpa[World.setCell]using h.size,λb hb hm=>?_⟩
 rw[qa _ _ _ _ (λe=>by subst e;rcases hp with h1|h1;exact hm h1;omega),h.block b hb hm]
theorem Kx.below{B:Nat}(h:Kx M w w')(hB:B<=w.heap.size)(hM:∀b,M b->B<=b):Below B w w':=
 ⟨h.os,h.tape,h.output,h.size,λb hb=>h.block b (by omega) (λhm=>by have:=hM b hm;omega)⟩
theorem Kx.cell(h:Kx M w w'){b o:Nat}{x:Value}(hm:¬M b)(hc:w.cell? ⟨b,o,none⟩=some x):w'.cell? ⟨b,o,none⟩=some x:=
 (zm (h.block b (zn _ _ hc) hm)).trans hc
theorem Kx.frozen(h:Kx M w w'){b o:Nat}(hb:b<w.heap.size)(hm:¬M b):w'.frozen? ⟨b,o,none⟩=w.frozen? ⟨b,o,none⟩:=qv (h.block b hb hm)
theorem Kx.mono(h:Kx M w w')(hM:∀b,M b->M' b):Kx M' w w':=⟨h.os,h.tape,h.output,h.size,λb hb hm=>h.block b hb (λhx=>hm (hM b hx))⟩
end
structure Rdr(R:Nat)(w:World)(A:Option Addr)(c:Nat)(bs:List UInt8)(p n:Nat):Prop where
 c0:w.cell? ⟨R,0,none⟩=some (.slice A bs.length c)
 c1:w.cell? ⟨R,1,none⟩=some (.int .i64 p)
 c2:w.cell? ⟨R,2,none⟩=some (.int .i64 n)
 fr:∀i,w.frozen? ⟨R,i,none⟩=false
 sl:Sl w R A (u8s bs)
 hc:bs.length<=c
 hm:c<=maxLen
 hp:p<=bs.length
 base:∃w0:World,w0.heap.size<=R/\Nam w0/\Below w0.heap.size w0 w
section
variable{R:Nat}{w w':World}{A:Option Addr}{c:Nat}{bs:List UInt8}{p n:Nat}
theorem Rdr.lt(h:Rdr R w A c bs p n):R<w.heap.size:=zn _ _ h.c0
theorem Rdr.later(h:Rdr R w A c bs p n)(hb:Below w.heap.size w w'):Rdr R w' A c bs p n:=
 ⟨(hb.cell (p:=⟨R,0,none⟩) h.lt).trans h.c0,(hb.cell (p:=⟨R,1,none⟩) h.lt).trans h.c1,(hb.cell (p:=⟨R,2,none⟩) h.lt).trans h.c2,λi=>(hb.frozen (p:=⟨R,i,none⟩) h.lt).trans (h.fr i),h.sl.below (hb.mono (xh h.lt)),h.hc,h.hm,h.hp,h.base.imp λw0 ⟨h1,h2,h3⟩=>⟨h1,h2,h3.trans (hb.mono h3.size)⟩⟩
theorem Rdr.drewN(h:Rdr R w A c bs p n)(k:Nat):Rdr R (w.drewN k) A c bs p n:=⟨h.c0,h.c1,h.c2,h.fr,h.sl,h.hc,h.hm,h.hp,h.base.imp λw0 ⟨h1,h2,h3⟩=>⟨h1,h2,⟨h3.os,h3.tape,h3.output,h3.size,h3.block⟩⟩⟩
theorem Rdr.sl'(h:Rdr R w A c bs p n):Sl w w.heap.size A (u8s bs):=h.sl.more (xh h.lt)
theorem Rdr.setAt(h:Rdr R w A c bs p n){q:Nat}(hq:q<=bs.length):Rdr R (w.setCell ⟨R,1,none⟩ (.int .i64 q)) A c bs q n:=
 ⟨(
  zk _ _ _ _ (by simp)).trans h.c0,ze _ _ _ h.c1,(zk _ _ _ _ (by simp)).trans h.c2,λi=>(za _ _ _ _).trans (h.fr i),
  h.sl.keep λb o hb=>zk _ _ _ _ (by intro e;injection e with e;omega),h.hc,h.hm,hq,h.base.imp λw0 ⟨h1,h2,h3⟩=>⟨h1,h2,h3.setCell h1 _⟩⟩
theorem Rdr.setN(h:Rdr R w A c bs p n)(m:Nat):Rdr R (w.setCell ⟨R,2,none⟩ (.int .i64 m)) A c bs p m:=
 ⟨(
  zk _ _ _ _ (by simp)).trans h.c0,(zk _ _ _ _ (by simp)).trans h.c1,ze _ _ _ h.c2,λi=>(za _ _ _ _).trans (h.fr i),
  h.sl.keep λb o hb=>zk _ _ _ _ (by intro e;injection e with e;omega),h.hc,h.hm,h.hp,h.base.imp λw0 ⟨h1,h2,h3⟩=>⟨h1,h2,h3.setCell h1 _⟩⟩
theorem Rdr.kx{M:Nat->Prop}(h:Rdr R w A c bs p n)(hk:Kx M w w')(hR:¬M R)(hM:∀b,M b->R<=b):Rdr R w' A c bs p n:=
 ⟨hk.cell hR h.c0,hk.cell hR h.c1,hk.cell hR h.c2,λi=>(hk.frozen h.lt hR).trans (h.fr i),h.sl.below (hk.below (xh h.lt) hM),h.hc,h.hm,h.hp,h.base.imp λw0 ⟨h1,h2,h3⟩=>⟨h1,h2,h3.trans (hk.below h3.size (λb hb=>zy h1 (hM b hb)))⟩⟩
theorem Rdr.nam(h:Rdr R w A c bs p n):Nam w:=by
 obtain⟨w0,-,h2,h3⟩:=h.base
 exact h2.below h3
end
theorem Adv.dropped{bs l':List UInt8}{p p' m:Nat}(h:Adv (bs.drop p) p l' p' m)(hp:p<=bs.length):l'=bs.drop p'/\p+m<=p'/\p'<=bs.length:=by
 obtain⟨k,rfl,rfl,h3,h4⟩:=h
 rw[qc]at h3
 exact⟨by rw[jd],by omega,by omega⟩
theorem spot_any(p:Int)(k:Int)(w:World):Calls prog 292 #[.int .i64 p,.int .i64 k] w λe w'=>∃v,e=.returned v/\SpotIs w' v p k/\Below w.heap.size w w':=by
 go_enter func292,ntmps292
 go_wp2
 go_ret
 exact⟨_,rfl,SpotIs.new _ _ _ _,(zx _ _).alloc (zq _) _⟩
theorem fault_any{R:Nat}{w:World}{A:Option Addr}{c:Nat}{bs:List UInt8}{p n:Nat}(k:Int)(h:Rdr R w A c bs p n):
  Calls prog 279 #[.pointer (some ⟨R,0,none⟩),.int .i64 k] w λe w'=>∃v,e=.returned v/\SpotIs w' v p k/\Below w.heap.size w w':=by
 have c1:=h.c1
 have hlt:=h.lt
 clear h
 have HS:=hid (λw=>spot_any p k w)
 go_enter func279,ntmps279
 go_wp2_with(first|(go_at_call 292;(with_reducible refine(HS.out _).mono ?_);rintro e w1 ⟨v,rfl,hs,hb⟩;have HSp:=hid hs;have HB:=hid hb;clear hs hb))
 go_ret
 exact⟨_,rfl,HSp.out,HB.out⟩
theorem peek_ok{R:Nat}{w:World}{A:Option Addr}{c:Nat}{bs:List UInt8}{p n:Nat}(h:Rdr R w A c bs p n)(b:UInt8)(hb:bs[p]? =some b):
  Calls prog 269 #[.pointer (some ⟨R,0,none⟩)] w λe w'=>e=.returned (.tuple #[.int .u8 b.toNat,.nilIface])/\∃nq,w'=w.drewN nq:=by
 obtain⟨hlt,hg⟩:=List.getElem?_eq_some_iff.1 hb
 have c0:=h.c0
 have c1:=h.c1
 have hm:=h.hm
 have hcc:=h.hc
 unfold maxLen at hm
 obtain⟨g,o,rfl,hgl,hcell⟩:=h.sl (λe=>by have:=congrArg List.length e;simp at this;subst this;simp at hlt)
 have q:=hcell p (by simpa using hlt)
 rw[u8s_get bs p hlt,hg]at q
 have t0:((p:Int)==(bs.length:Int))=false:=by simp;omega
 have l0:(p:Int)<bs.length:=by omega
 have l1:(0:Int)<=p:=by omega
 have l2:((p:Int)).toNat=p:=by simp
 have hgw:g<w.heap.size:=zn _ _ q
 clear h hcell hg hb
 go_enter func269,ntmps269
 go_wp2_with fail
 refine wp_region_held_drew (S:=λw'=>w'.cell? ⟨R,0,none⟩=some (.slice (some ⟨g,o,none⟩) bs.length c)/\w'.cell? ⟨R,1,none⟩=some (.int .i64 p)) (by kernel_rfl) ⟨c0,c1⟩ (λhHeld=>?_)
 refine rtk 0 4 ?_
 refine rtk 1 5 ?_
 refine rtk 2 6 ?_
 refine rtk 3 7 ?_
 refine rtk 4 8 ?_
 refine rtk 5 9 ?_
 refine rtk 6 10 ?_
 refine rtk 7 11 ?_
 refine rtk 8 12 ?_
 refine rtk 9 13 ?_
 refine wpAnyH_done (by kernel_rfl) ?_ _
 clear hHeld
 go_wp2_with fail
 refine wp_region_held_drew (S:=λw'=>w'.cell? ⟨R,0,none⟩=some (.slice (some ⟨g,o,none⟩) bs.length c)/\w'.cell? ⟨R,1,none⟩=some (.int .i64 p)/\w'.cell? ⟨g,o+p,none⟩=some (.int .u8 b.toNat)) (by kernel_rfl) ⟨c0,c1,q⟩ (λhHeld=>?_)
 refine rtk 0 16 ?_
 refine rtk 1 17 ?_
 refine rtk 2 18 ?_
 refine rtk 3 19 ?_
 refine rtk 4 20 ?_
 refine rtk 5 21 ?_
 refine rtk 6 22 ?_
 refine rtk 7 23 ?_
 refine rtk 8 24 ?_
 refine rtk 9 25 ?_
 refine rtk 10 2 ?_
 refine rtk 11 3 ?_
 refine wpAnyH_done (by kernel_rfl) ?_ _
 go_wp2_with fail
 go_ret2
 exact⟨rfl,2,rfl⟩
theorem peek_end{R:Nat}{w:World}{A:Option Addr}{c:Nat}{bs:List UInt8}{n:Nat}(h:Rdr R w A c bs bs.length n):
  Calls prog 269 #[.pointer (some ⟨R,0,none⟩)] w λe w'=>∃v,e=.returned (.tuple #[.int .u8 0,v])/\SpotIs w' v bs.length 2/\Below w.heap.size w w':=by
 have c0:=h.c0
 have c1:=h.c1
 have t0:((bs.length:Int)==(bs.length:Int))=true:=by simp
 have HF:=hid (fault_any 2 (h.drewN 1))
 clear h
 go_enter func269,ntmps269
 go_wp2_with fail
 refine wp_region_held_drew (S:=λw'=>w'.cell? ⟨R,0,none⟩=some (.slice A bs.length c)/\w'.cell? ⟨R,1,none⟩=some (.int .i64 bs.length)) (by kernel_rfl) ⟨c0,c1⟩ (λhHeld=>?_)
 refine rtk 0 4 ?_
 refine rtk 1 5 ?_
 refine rtk 2 6 ?_
 refine rtk 3 7 ?_
 refine rtk 4 8 ?_
 refine rtk 5 9 ?_
 refine rtk 6 10 ?_
 refine rtk 7 11 ?_
 refine rtk 8 12 ?_
 refine rtk 9 13 ?_
 refine wpAnyH_done (by kernel_rfl) ?_ _
 clear hHeld
 have e1:w.drewN 1=w.drew:=rfl
 rw[e1]at HF
 go_wp2_with(first|(go_at_call 279;(with_reducible refine HF.out.mono ?_);rintro e w1 ⟨v,rfl,hs,hb⟩;have HSp:=hid hs;have HB:=hid hb;clear hs hb))
 go_ret2
 exact⟨_,rfl,HSp.out,((zx _ _).drew).trans HB.out⟩
end Go.Proofs.YteoijlfipmaoeaaGreatDoor
