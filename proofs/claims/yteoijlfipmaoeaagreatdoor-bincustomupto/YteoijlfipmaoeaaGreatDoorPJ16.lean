import Derived.Test.YteoijlfipmaoeaaGreatDoorPBinLA
import Derived.Lib.ConvBytes
set_option linter.unusedVariables false
set_option linter.unusedSimpArgs false
set_option maxRecDepth 100000
set_option maxHeartbeats 16000000
namespace Go.Proofs.YteoijlfipmaoeaaGreatDoor
open Lib (hid)
open Go.RowKit Trx
open Go.Proofs.Tryz
theorem bytes1_any{W:Nat}{w0 w:World}{v u:Value}{bs:List UInt8}{bad:Bool}{B0:Nat}(x:UInt8)(h:Wr W w0 w v u bs bad)(hB:Bx W w v B0 [pW W])(hL:bs.length+(Bin.pByte x).1.length<=100000000):
  Calls prog 179 #[.int .u8 (x.toNat:Int),.pointer (some ⟨B0,0,none⟩)] w (WrP W w0 w v u bs bad (Bin.pByte x)):=by
 (try simp only[Bin.cat,zz]at hL)
 have HL:=hid hL
 have HC0:=hid (λw' v' bs' bad' (h':Wr W w0 w' v' u bs' bad') (hl':bs'.length+1<=200000000)=>byte_any x _ rfl h' hl')
 have HS0:=hid (Wz.here h (λ_=>hB))
 have qb:=hB.cell 0 _ rfl
 have qn:=hB.lt
 clear h hL hB
 unfold WrP at HC0⊢
 go_enter func179,ntmps179
 go_wp2_with(first
  |(go_at_call 76;(with_reducible refine(HC0.out _ _ _ _ HS0.out.wr (by have:=HL.out;(try simp only[Bin.cat,zz]);omega)).mono ?_);rintro e w1 ⟨rfl,v1,hw,hk⟩;have HS1:=hid (HS0.out.step hw hk);have b1:=HS1.out.b.c 0 rfl;clear hw hk))
 go_end0
 exact⟨rfl,v1,HS1.out.wr.eq (by simp[Bin.pByte,Bin.cat]) (by cases bad<;>simp[Bin.pByte,zl,zh,Bin.cat,Bin.pByte,Bin.pFlag,jz,qo]),HS1.out.k⟩
theorem types1_any{W:Nat}{w0 w:World}{v u:Value}{bs:List UInt8}{bad:Bool}{B0:Nat}(x:Int)(hx:inI x)(h:Wr W w0 w v u bs bad)(hB:Bx W w v B0 [pW W])(hL:bs.length+(Bin.pType x).1.length<=100000000):
  Calls prog 162 #[.int .i64 x,.pointer (some ⟨B0,0,none⟩)] w (WrP W w0 w v u bs bad (Bin.pType x)):=by
 (try simp only[Bin.cat,zz]at hL)
 have HL:=hid hL
 have HC0:=hid (λw' v' bs' bad' (h':Wr W w0 w' v' u bs' bad') (hl':bs'.length+1<=200000000)=>valueType_any x hx h' hl')
 have HS0:=hid (Wz.here h (λ_=>hB))
 have qb:=hB.cell 0 _ rfl
 have qn:=hB.lt
 clear h hL hB
 unfold WrP at HC0⊢
 go_enter func162,ntmps162
 go_wp2_with(first
  |(go_at_call 92;(with_reducible refine(HC0.out _ _ _ _ HS0.out.wr (by have:=HL.out;(try simp only[Bin.cat,zz]);omega)).mono ?_);rintro e w1 ⟨rfl,v1,hw,hk⟩;have HS1:=hid (HS0.out.step hw hk);have b1:=HS1.out.b.c 0 rfl;clear hw hk))
 go_end0
 exact⟨rfl,v1,HS1.out.wr.eq (by simp[Bin.cat]) (by cases bad<;>simp[Bin.cat,Bin.pByte,Bin.pFlag,jz,qo]),HS1.out.k⟩
theorem nums1_any{W:Nat}{w0 w:World}{v u:Value}{bs:List UInt8}{bad:Bool}{B0:Nat}(x:Int)(hx:inI x)(h:Wr W w0 w v u bs bad)(hB:Bx W w v B0 [pW W])(hL:bs.length+(Bin.pNum x).1.length<=100000000):
  Calls prog 103 #[.int .i64 x,.pointer (some ⟨B0,0,none⟩)] w (WrP W w0 w v u bs bad (Bin.pNum x)):=by
 (try simp only[Bin.cat,zz]at hL)
 have HL:=hid hL
 have HC0:=hid (λw' v' bs' bad' (h':Wr W w0 w' v' u bs' bad') hl'=>number_any x hx h' hl')
 have HS0:=hid (Wz.here h (λ_=>hB))
 have qb:=hB.cell 0 _ rfl
 have qn:=hB.lt
 clear h hL hB
 unfold WrP at HC0⊢
 go_enter func103,ntmps103
 go_wp2_with(first
  |(go_at_call 84;(with_reducible refine(HC0.out _ _ _ _ HS0.out.wr (by have:=HL.out;(try simp only[Bin.cat,zz]);omega)).mono ?_);rintro e w1 ⟨rfl,v1,hw,hk⟩;have HS1:=hid (HS0.out.step hw hk);have b1:=HS1.out.b.c 0 rfl;clear hw hk))
 go_end0
 exact⟨rfl,v1,HS1.out.wr.eq (by simp[Bin.cat]) (by cases bad<;>simp[Bin.cat,Bin.pByte,Bin.pFlag,jz,qo]),HS1.out.k⟩
theorem Lst.of_bx{W:Nat}{w:World}{v:Value}{g:Nat}{k:Nat}{rs:List (List Value)}(hg:g<w.heap.size)(hne:g≠W)(hv:v.ownBlock≠some g)(hr:RowsAt w w.heap.size (some ⟨g,0,none⟩) k rs):Lst W w v (some ⟨g,0,none⟩) k rs:=by
 intro w' v' hk h0
 obtain⟨b,o,e,hb,hc⟩:=hr h0
 injection e with e
 injection e with e1 e2
 subst e1 e2
 exact⟨g,0,rfl,zj hg hk.size,λi r hi j hj=>(zm (hk.keep g hg hne hv).1).trans (hc i r hi j hj)⟩
theorem u8_rows(l:List UInt8):ones (u8s l)=l.map λx:UInt8=>([.int .u8 (x.toNat:Int)]:List Value):=by simp[ones,u8s]
theorem n64_rows(l:List Int):ones (n64s l)=l.map λx:Int=>([.int .i64 x]:List Value):=by simp[ones,n64s]
theorem wbytes_any{W:Nat}{w0 w:World}{v u:Value}{bs:List UInt8}{bad:Bool}(l:List UInt8)(A:Option Addr)(c:Nat)(h:Wr W w0 w v u bs bad)(hl:Lst W w v A 1 (ones (u8s l)))(hL:bs.length+(Bin.pBytes l).1.length<=100000000):
  Calls prog 105 #[pW W,.slice A l.length c] w (WrP W w0 w v u bs bad (Bin.pBytes l)):=by
 rw[u8_rows]at hl
 have hlen:l.length<=100000000:=by simp[Bin.pBytes,Bin.cat]at hL;omega
 have HB:=Bx.new h #[pW W] 66 _ rfl rfl
 have HP:=hid (wlist_any .Bs Bin.pByte l A c hlen (h.alloc (.cells #[pW W] 66)) HB (hl.kw (Kw.refl_.alloc _)) (by rw[Bin.pBytes_eq];exact hL) (λx hx w' v' bs' bad' hw hb hl'=>bytes1_any x hw hb hl'))
 rw[Bin.pBytes_eq]at HP
 have HK:=hid (Kw.refl_.alloc (.cells #[pW W] 66):Kw W w v (w.alloc (.cells #[pW W] 66)) v)
 clear h hl hL HB
 unfold WrP at HP⊢
 go_enter func105,ntmps105
 go_wp2_with(first|(go_at_call 178;(with_reducible refine HP.out.mono ?_);rintro e w1 ⟨rfl,v1,hw1,hk1⟩;have HW1:=hid hw1;have HK1:=hid (HK.out.trans hk1);clear hw1 hk1))
 go_end0
 exact⟨rfl,v1,HW1.out,HK1.out⟩
theorem wtypes_any{W:Nat}{w0 w:World}{v u:Value}{bs:List UInt8}{bad:Bool}(l:List Int)(A:Option Addr)(c:Nat)(hz:∀x∈l,inI x)(hlen:l.length<=100000000)(h:Wr W w0 w v u bs bad)(hl:Lst W w v A 1 (ones (n64s l)))(hL:bs.length+(Bin.pList Bin.pType l).1.length<=100000000):
  Calls prog 77 #[pW W,.slice A l.length c] w (WrP W w0 w v u bs bad (Bin.pList Bin.pType l)):=by
 rw[n64_rows]at hl
 have HB:=Bx.new h #[pW W] 66 _ rfl rfl
 have HP:=hid (wlist_any .Ts Bin.pType l A c hlen (h.alloc (.cells #[pW W] 66)) HB (hl.kw (Kw.refl_.alloc _)) hL (λx hx w' v' bs' bad' hw hb hl'=>types1_any x (hz x hx) hw hb hl'))
 have HK:=hid (Kw.refl_.alloc (.cells #[pW W] 66):Kw W w v (w.alloc (.cells #[pW W] 66)) v)
 clear h hl hL HB
 unfold WrP at HP⊢
 go_enter func77,ntmps77
 go_wp2_with(first|(go_at_call 102;(with_reducible refine HP.out.mono ?_);rintro e w1 ⟨rfl,v1,hw1,hk1⟩;have HW1:=hid hw1;have HK1:=hid (HK.out.trans hk1);clear hw1 hk1))
 go_end0
 exact⟨rfl,v1,HW1.out,HK1.out⟩
theorem size_list(s:ByteArray):s.data.toList.length=s.size:=by
 show s.data.toList.length=s.data.size
 simp
theorem bytes_of(w:World)(s:ByteArray)(hm:s.size<=maxLen):∃c w',(convert 9 35 (.string s)).run prog w=.ok (.slice (some ⟨w.heap.size,0,none⟩) s.data.toList.length c) w'/\Below w.heap.size w w'/\
  Sl w' w'.heap.size (some ⟨w.heap.size,0,none⟩) (u8s s.data.toList)/\s.data.toList.length<=c/\c<=maxLen/\w.heap.size<w'.heap.size:=by
 refine⟨grownCap w s.size 0 5,Go.Lib.bytesWorld w 5 s,?_,⟨rfl,rfl,rfl,?_,λb hb=>Go.Lib.bytesWorld_at_old w _ s b hb⟩,?_,?_,grownCap_le_maxLen _ _ _ _ hm,?_⟩
 ·
  rw[size_list]
  exact Go.Lib.run_convert_string_bytes (P:=prog) w 9 35 5 s underlying9 underlying35 underlying5
 ·rw[Go.Lib.bytesWorld_size];omega
 ·
  intro _
  refine⟨w.heap.size,0,rfl,by rw[Go.Lib.bytesWorld_size];omega,λi hi=>?_⟩
  rw[u8s_length,size_list]at hi
  rw[qz,Go.Lib.bytesWorld_cell w _ s i hi,u8s_get _ i (by rw[size_list];exact hi)]
  simp[List.getD,size_list,hi]
 ·rw[size_list];exact grownCap_ge _ _ _ _
 ·rw[Go.Lib.bytesWorld_size];omega
theorem wname_any{W:Nat}{w0 w:World}{v u:Value}{bs:List UInt8}{bad:Bool}(s:ByteArray)(hT:U8T w0)(h:Wr W w0 w v u bs bad)(hL:bs.length+(Bin.pName s).1.length<=100000000):
  Calls prog 80 #[pW W,.string s] w (WrP W w0 w v u bs bad (Bin.pName s)):=by
 have hlen:s.size<=100000000:=by simp[Bin.pName,Bin.pBytes,Bin.cat]at hL;omega
 obtain⟨c,w1,hcv,hb1,hs1,hc1,hm1,hlt1⟩:=bytes_of w s (by unfold maxLen;omega)
 have HCh:=hid (check_any (some ⟨w.heap.size,0,none⟩) c s.data.toList w1 ((hT.below h.below).below hb1) hs1 hc1 hm1)
 have HW1:=hid (h.later hb1)
 have HK1:=hid (Kw.of_below hb1:Kw W w v w1 v)
 have HLs:Hid (Lst W w1 v (some ⟨w.heap.size,0,none⟩) 1 (ones (u8s s.data.toList))):=hid (Lst.of_bx hlt1 (by have:=h.lt;omega) (h.ob.new (zq _)) hs1.ones)
 have HL:Hid (bs.length+(Bin.pBytes s.data.toList).1.length<=100000000):=hid hL
 clear h hL hs1 hb1 hlt1 hT
 unfold WrP Bin.pName
 obtain⟨l,hl⟩:∃l,s.data.toList=l:=⟨_,rfl⟩
 rw[hl]at hcv HCh HLs HL hc1⊢
 clear hl
 obtain⟨t,ht⟩:∃t,Bin.text l=t:=⟨_,rfl⟩
 rw[ht]
 unfold Bin.text at ht
 cases t
 ·
  obtain⟨p,hp⟩:∃p,(Utf.all l).2=some p:=by
   cases hx:(Utf.all l).2 with
   |none=>rw[hx]at ht;cases ht
   |some p=>exact⟨p,rfl⟩
  rw[hp]at HCh
  clear ht hp
  go_enter func80,ntmps80
  go_wp2_with(first
   |(go_at_call 165;(with_reducible refine HCh.out.mono ?_);rintro e w2 ⟨hb2,v2,rfl,⟨sb,so,rfl,-,-⟩⟩;have HW2:=hid (HW1.out.later hb2);have HK2:=hid (HK1.out.trans (Kw.of_below hb2));have HL2:=hid (HLs.out.kw (Kw.of_below hb2));clear hb2)
   |(go_at_call 166;(with_reducible refine(refuse_any HW2.out).mono ?_);unfold WrP;rintro e w3 ⟨rfl,v3,hw3,hk3⟩;have HW3:=hid hw3;have HK3:=hid (HK2.out.trans hk3);have HL3:=hid (HL2.out.kw hk3);clear hw3 hk3)
   |(go_at_call 105;(with_reducible refine(wbytes_any l _ c (HW3.out.eq (bs':=bs) (by simp) rfl) HL3.out HL.out).mono ?_);unfold WrP;rintro e w4 ⟨rfl,v4,hw4,hk4⟩;have HW4:=hid hw4;have HK4:=hid (HK3.out.trans hk4);clear hw4 hk4))
  go_end0
  exact⟨rfl,v4,HW4.out.eq (by simp) (by simp),HK4.out⟩
 ·
  have hp:(Utf.all l).2=none:=by
   cases hx:(Utf.all l).2 with
   |none=>rfl
   |some p=>rw[hx]at ht;cases ht
  rw[hp]at HCh
  clear ht hp
  go_enter func80,ntmps80
  go_wp2_with(first
   |(go_at_call 165;(with_reducible refine HCh.out.mono ?_);rintro e w2 ⟨hb2,v2,rfl,rfl⟩;have HW2:=hid (HW1.out.later hb2);have HK2:=hid (HK1.out.trans (Kw.of_below hb2));have HL2:=hid (HLs.out.kw (Kw.of_below hb2));clear hb2)
   |(go_at_call 105;(with_reducible refine(wbytes_any l _ c HW2.out HL2.out HL.out).mono ?_);unfold WrP;rintro e w4 ⟨rfl,v4,hw4,hk4⟩;have HW4:=hid hw4;have HK4:=hid (HK2.out.trans hk4);clear hw4 hk4))
  go_end0
  exact⟨rfl,v4,HW4.out.eq (by simp) (by simp),HK4.out⟩
theorem wexpr_any{W:Nat}{w0 w:World}{v u:Value}{bs:List UInt8}{bad:Bool}(f:Fo)(A:Option Addr)(c:Nat)(hN:Nam w0)(hr:RdS w w.heap.size A f)(hlen:len f<=maxLen)(hwt:wt f<=2200000)(h:Wr W w0 w v u bs bad)(hL:bs.length+(Bin.pExpr f).1.length<=100000000):
  Calls prog 94 #[pW W,.slice A (len f) c] w (WrP W w0 w v u bs bad (Bin.pExpr f)):=by
 have hNw:=hN.below h.below
 have HW:=hid h
 cases hm:may f with
 |false=>
  have HP:=hid (Put_not f A c w hNw hr hlen hm)
  have e:Bin.pExpr f=([],false):=by unfold Bin.pExpr;rw[hm];rfl
  rw[e]at hL⊢
  clear h hr hN hNw hm e
  unfold WrP
  go_enter func94,ntmps94
  go_wp2_with(first
   |(go_at_call 173;(with_reducible refine HP.out.mono ?_);rintro e w1 ⟨rfl,hb1⟩;have HW1:=hid (HW.out.later hb1);have HK1:=hid (Kw.of_below hb1:Kw W w v w1 v);clear hb1)
   |(go_at_call 166;(with_reducible refine(refuse_any HW1.out).mono ?_);unfold WrP;rintro e w3 ⟨rfl,v3,hw3,hk3⟩;have HW3:=hid hw3;have HK3:=hid (HK1.out.trans hk3);have g0:=HW3.out.c0;have gf:=HW3.out.fr 0;have glt:=HW3.out.lt;clear hw3 hk3)
   |(at_builtin;refine wpl_bytes rfl (.tmp 19) (.tmp 20) rfl [] rfl (HW3.out.ob) rfl (Sl.nil_ (B:=0)) rfl (by simp at hL⊢;omega) ?_;intro v4 w4 ho4 hk4;obtain⟨A4,n4,c4,rfl⟩:=ho4.is_slice;have HO4:=hid ho4;have HK4:=hid hk4;have q0:=(zm (hk4.keep W glt HW3.out.vW).1).trans g0;have qf:=(qv (hk4.keep W glt HW3.out.vW).1).trans gf;clear ho4 hk4))
  go_end0
  exact⟨rfl,_,(HW3.out.put HO4.out HK4.out).eq (by simp) (by simp),(HK3.out.trans (Kw.of_kp HK4.out)).set 0 _⟩
 |true=>
  have HP:=hid (Put_may f A c w hNw hr hlen hm hwt)
  have e:Bin.pExpr f=(enc f++[11],true):=by unfold Bin.pExpr;rw[hm];rfl
  rw[e]at hL⊢
  obtain⟨y,hy⟩:∃y,enc f++[11]=y:=⟨_,rfl⟩
  rw[hy]at HP hL⊢
  clear h hr hN hNw hm e hy
  unfold WrP
  go_enter func94,ntmps94
  go_wp2_with(first
   |(go_at_call 173;(with_reducible refine HP.out.mono ?_);rintro e w1 ⟨x1,rfl,ho1⟩;obtain⟨A1,c1,hx1,-,-,hs1⟩:=OwnK.form ho1;rw[ones_length,u8s_length]at hx1;subst hx1;have HS1:=hid (RowsAt.sl hs1);have HW1:=hid (HW.out.later (OwB.below ho1));have HK1:=hid (Kw.of_below (OwB.below ho1):Kw W w v w1 v);have g0:=HW1.out.c0;have gf:=HW1.out.fr 0;have glt:=HW1.out.lt;clear ho1 hs1)
   |(at_builtin;refine wpl_bytes rfl (.tmp 19) (.tmp 20) rfl y rfl (HW1.out.ob) rfl HS1.out rfl (by have:bs.length+y.length<=100000000:=hL;omega) ?_;intro v4 w4 ho4 hk4;obtain⟨A4,n4,c4,rfl⟩:=ho4.is_slice;have HO4:=hid ho4;have HK4:=hid hk4;have q0:=(zm (hk4.keep W glt HW1.out.vW).1).trans g0;have qf:=(qv (hk4.keep W glt HW1.out.vW).1).trans gf;clear ho4 hk4))
  go_end0
  exact⟨rfl,_,(HW1.out.put HO4.out HK4.out).eq (by simp) (by simp),(HK1.out.trans (Kw.of_kp HK4.out)).set 0 _⟩
theorem limits_t{W:Nat}{w0 w:World}{v u:Value}{bs:List UInt8}{bad:Bool}(mn mx:Int)(h1:inI mn)(h2:inI mx)(h:Wr W w0 w v u bs bad)(hL:bs.length+(Bin.cat (Bin.pFlag true) (Bin.cat (Bin.pNum mn) (Bin.pNum mx))).1.length<=100000000):
  Calls prog 89 #[pW W,.agg #[.int .i64 mn,.int .i64 mx,.bool true]] w (WrP W w0 w v u bs bad (Bin.cat (Bin.pFlag true) (Bin.cat (Bin.pNum mn) (Bin.pNum mx)))):=by
 (try simp only[Bin.cat,zz]at hL)
 have HL:=hid hL
 have HC0:=hid (λw' v' bs' bad' (h':Wr W w0 w' v' u bs' bad') hl'=>flag_any true h' hl')
 have HC1:=hid (λw' v' bs' bad' (h':Wr W w0 w' v' u bs' bad') hl'=>number_any mn h1 h' hl')
 have HC2:=hid (λw' v' bs' bad' (h':Wr W w0 w' v' u bs' bad') hl'=>number_any mx h2 h' hl')
 have HS0:=hid (Wz.new h (Bo.nil (N:=0)) [.int .i64 mn,.int .i64 mx,.bool true] 75)
 clear h hL
 unfold WrP at HC0 HC1 HC2⊢
 go_enter func89,ntmps89
 go_wp2_with(first
  |(go_at_call 93;(with_reducible refine(HC0.out _ _ _ _ HS0.out.wr (by have:=HL.out;(try simp only[Bin.cat,zz]);omega)).mono ?_);rintro e w1 ⟨rfl,v1,hw,hk⟩;have HS1:=hid (HS0.out.step hw hk);have x1_0:=HS1.out.x.c 0 rfl;have x1_1:=HS1.out.x.c 1 rfl;have x1_2:=HS1.out.x.c 2 rfl;clear hw hk)
  |(go_at_call 84;(with_reducible refine(HC1.out _ _ _ _ HS1.out.wr (by have:=HL.out;(try simp only[Bin.cat,zz]);omega)).mono ?_);rintro e w2 ⟨rfl,v2,hw,hk⟩;have HS2:=hid (HS1.out.step hw hk);have x2_0:=HS2.out.x.c 0 rfl;have x2_1:=HS2.out.x.c 1 rfl;have x2_2:=HS2.out.x.c 2 rfl;clear hw hk)
  |(go_at_call 84;(with_reducible refine(HC2.out _ _ _ _ HS2.out.wr (by have:=HL.out;(try simp only[Bin.cat,zz]);omega)).mono ?_);rintro e w3 ⟨rfl,v3,hw,hk⟩;have HS3:=hid (HS2.out.step hw hk);clear hw hk))
 go_end0
 exact⟨rfl,v3,HS3.out.wr.eq (by simp[Bin.cat]) (by cases bad<;>simp[Bin.pFlag,zl,zh,Bin.cat,Bin.pByte,Bin.pFlag,jz,qo]),HS3.out.k⟩
theorem limits_z{W:Nat}{w0 w:World}{v u:Value}{bs:List UInt8}{bad:Bool}(mn:Int)(h1:inI mn)(h:Wr W w0 w v u bs bad)(hL:bs.length+(Bin.cat (Bin.pFlag false) (Bin.pNum mn)).1.length<=100000000):
  Calls prog 89 #[pW W,.agg #[.int .i64 mn,.int .i64 0,.bool false]] w (WrP W w0 w v u bs bad (Bin.cat (Bin.pFlag false) (Bin.pNum mn))):=by
 (try simp only[Bin.cat,zz]at hL)
 have HL:=hid hL
 have HC0:=hid (λw' v' bs' bad' (h':Wr W w0 w' v' u bs' bad') hl'=>flag_any false h' hl')
 have HC1:=hid (λw' v' bs' bad' (h':Wr W w0 w' v' u bs' bad') hl'=>number_any mn h1 h' hl')
 have HS0:=hid (Wz.new h (Bo.nil (N:=0)) [.int .i64 mn,.int .i64 0,.bool false] 75)
 clear h hL
 unfold WrP at HC0 HC1⊢
 go_enter func89,ntmps89
 go_wp2_with(first
  |(go_at_call 93;(with_reducible refine(HC0.out _ _ _ _ HS0.out.wr (by have:=HL.out;(try simp only[Bin.cat,zz]);omega)).mono ?_);rintro e w1 ⟨rfl,v1,hw,hk⟩;have HS1:=hid (HS0.out.step hw hk);have x1_0:=HS1.out.x.c 0 rfl;have x1_1:=HS1.out.x.c 1 rfl;have x1_2:=HS1.out.x.c 2 rfl;clear hw hk)
  |(go_at_call 84;(with_reducible refine(HC1.out _ _ _ _ HS1.out.wr (by have:=HL.out;(try simp only[Bin.cat,zz]);omega)).mono ?_);rintro e w2 ⟨rfl,v2,hw,hk⟩;have HS2:=hid (HS1.out.step hw hk);have x2_1:=HS2.out.x.c 1 rfl;have x2_2:=HS2.out.x.c 2 rfl;clear hw hk))
 go_end0
 exact⟨rfl,v2,HS2.out.wr.eq (by simp[Bin.cat]) (by cases bad<;>simp[Bin.pFlag,zl,zh,Bin.cat,Bin.pByte,Bin.pFlag,jz,qo]),HS2.out.k⟩
theorem limits_n{W:Nat}{w0 w:World}{v u:Value}{bs:List UInt8}{bad:Bool}(mn mx:Int)(h1:inI mn)(h2:inI mx)(hx:(mx==0)=false)(h:Wr W w0 w v u bs bad)(hL:bs.length+(Bin.cat (Bin.pFlag false) (Bin.cat (Bin.pNum mn) ([],false))).1.length<=100000000):
  Calls prog 89 #[pW W,.agg #[.int .i64 mn,.int .i64 mx,.bool false]] w (WrP W w0 w v u bs bad (Bin.cat (Bin.pFlag false) (Bin.cat (Bin.pNum mn) ([],false)))):=by
 (try simp only[Bin.cat,zz]at hL)
 have HL:=hid hL
 have HC0:=hid (λw' v' bs' bad' (h':Wr W w0 w' v' u bs' bad') hl'=>flag_any false h' hl')
 have HC1:=hid (λw' v' bs' bad' (h':Wr W w0 w' v' u bs' bad') hl'=>number_any mn h1 h' hl')
 have HC2:=hid (λw' v' bs' bad' (h':Wr W w0 w' v' u bs' bad')=>refuse_any h')
 have HS0:=hid (Wz.new h (Bo.nil (N:=0)) [.int .i64 mn,.int .i64 mx,.bool false] 75)
 clear h hL
 unfold WrP at HC0 HC1 HC2⊢
 go_enter func89,ntmps89
 go_wp2_with(first
  |(go_at_call 93;(with_reducible refine(HC0.out _ _ _ _ HS0.out.wr (by have:=HL.out;(try simp only[Bin.cat,zz]);omega)).mono ?_);rintro e w1 ⟨rfl,v1,hw,hk⟩;have HS1:=hid (HS0.out.step hw hk);have x1_0:=HS1.out.x.c 0 rfl;have x1_1:=HS1.out.x.c 1 rfl;have x1_2:=HS1.out.x.c 2 rfl;clear hw hk)
  |(go_at_call 84;(with_reducible refine(HC1.out _ _ _ _ HS1.out.wr (by have:=HL.out;(try simp only[Bin.cat,zz]);omega)).mono ?_);rintro e w2 ⟨rfl,v2,hw,hk⟩;have HS2:=hid (HS1.out.step hw hk);have x2_0:=HS2.out.x.c 0 rfl;have x2_1:=HS2.out.x.c 1 rfl;have x2_2:=HS2.out.x.c 2 rfl;clear hw hk)
  |(go_at_call 166;(with_reducible refine(HC2.out _ _ _ _ HS2.out.wr).mono ?_);rintro e w3 ⟨rfl,v3,hw,hk⟩;have HS3:=hid (HS2.out.step hw hk);clear hw hk))
 go_end0
 exact⟨rfl,v3,HS3.out.wr.eq (by simp[Bin.cat]) (by cases bad<;>simp[Bin.pFlag,zl,zh,Bin.cat,Bin.pByte,Bin.pFlag,jz,qo]),HS3.out.k⟩
theorem limits_any{W:Nat}{w0 w:World}{v u:Value}{bs:List UInt8}{bad:Bool}(l:Lm)(hl:l.ok)(h:Wr W w0 w v u bs bad)(hL:bs.length+(Bin.pLim l).1.length<=100000000):
  Calls prog 89 #[pW W,.agg #[.int .i64 l.mn,.int .i64 l.mx,.bool l.hs]] w (WrP W w0 w v u bs bad (Bin.pLim l)):=by
 obtain⟨mn,mx,hs⟩:=l
 cases hs with
 |true=>exact limits_t mn mx hl.mn hl.mx h hL
 |false=>
  have e:Bin.pLim ⟨mn,mx,false⟩=Bin.cat (Bin.pFlag false) (Bin.cat (Bin.pNum mn) ([],decide (mx=0))):=rfl
  rw[e]at hL⊢
  by_cases h0:mx=0
  ·
   subst h0
   have e2:Bin.cat (Bin.pFlag false) (Bin.cat (Bin.pNum mn) ([],decide ((0:Int)=0)))=Bin.cat (Bin.pFlag false) (Bin.pNum mn):=by simp[Bin.cat]
   rw[e2]at hL⊢
   exact limits_z mn hl.mn h hL
  ·
   rw[decide_eq_false h0]at hL⊢
   exact limits_n mn mx hl.mn hl.mx (by simpa using h0) h hL
theorem table_any{W:Nat}{w0 w:World}{v u:Value}{bs:List UInt8}{bad:Bool}(l:Lm)(hl:l.ok)(h:Wr W w0 w v u bs bad)(hL:bs.length+(Bin.pTab l).1.length<=100000000):
  Calls prog 87 #[pW W,.agg #[.int .i64 l.mn,.int .i64 l.mx,.bool l.hs]] w (WrP W w0 w v u bs bad (Bin.pTab l)):=by
 (try simp only[Bin.pTab,Bin.cat,zz]at hL)
 have HL:=hid hL
 have HC0:=hid (λw' v' bs' bad' (h':Wr W w0 w' v' u bs' bad') hl'=>byte_any 112 112 rfl h' hl')
 have HC1:=hid (λw' v' bs' bad' (h':Wr W w0 w' v' u bs' bad') hl'=>limits_any l hl h' hl')
 have HS0:=hid (Wz.new h (Bo.nil (N:=0)) [.int .i64 l.mn,.int .i64 l.mx,.bool l.hs] 75)
 clear h hL
 unfold WrP at HC0 HC1⊢
 go_enter func87,ntmps87
 go_wp2_with(first
  |(go_at_call 76;(with_reducible refine(HC0.out _ _ _ _ HS0.out.wr (by have:=HL.out;(try simp only[Bin.cat,zz]);omega)).mono ?_);rintro e w1 ⟨rfl,v1,hw,hk⟩;have HS1:=hid (HS0.out.step hw hk);have x1_0:=HS1.out.x.c 0 rfl;have x1_1:=HS1.out.x.c 1 rfl;have x1_2:=HS1.out.x.c 2 rfl;clear hw hk)
  |(go_at_call 89;(with_reducible refine(HC1.out _ _ _ _ HS1.out.wr (by have:=HL.out;(try simp only[Bin.cat,zz]);omega)).mono ?_);rintro e w2 ⟨rfl,v2,hw,hk⟩;have HS2:=hid (HS1.out.step hw hk);clear hw hk))
 go_end0
 exact⟨rfl,v2,HS2.out.wr.eq (by simp[Bin.pTab,Bin.pByte,Bin.cat]) (by cases bad<;>simp[Bin.pTab,Bin.pByte,zl,zh,Bin.cat,Bin.pByte,Bin.pFlag,jz,qo]),HS2.out.k⟩
theorem Wr.setOther{W:Nat}{w0 w:World}{v u:Value}{bs:List UInt8}{bad:Bool}(h:Wr W w0 w v u bs bad){n:Nat}(hn:w0.heap.size<=n)(hne:n≠W)(hv:v.ownBlock≠some n)(i:Nat)(x:Value):Wr W w0 (w.setCell ⟨n,i,none⟩ x) v u bs bad:=by
 have hw:∀j,(⟨W,j,none⟩:Addr)≠⟨n,i,none⟩:=λj e=>by injection e with e;exact hne e.symm
 exact⟨h.hW,(zk _ _ _ _ (by simp[hne])).trans h.c0,(zk _ _ _ _ (by simp[hne])).trans h.c1,(zk _ _ _ _ (by simp[hne])).trans h.c2,λj=>(za _ _ _ _).trans (h.fr j),OwnK.setOther h.ob hn hv i x,h.vW⟩
theorem Kw.setNew{W:Nat}{w w':World}{v v':Value}(h:Kw W w v w' v'){n:Nat}(hn:w.heap.size<=n)(i:Nat)(x:Value):Kw W w v (w'.setCell ⟨n,i,none⟩ x) v':=by
 refine⟨λm hm hW hv=>?_,by have:=h.size;simpa[World.setCell]using this⟩
 obtain⟨e1,e2⟩:=h.keep m hm hW hv
 exact⟨(qa _ _ _ _ (by show m≠n;omega)).trans e1,e2⟩
theorem imported_0{W:Nat}{w0 w:World}{v u:Value}{bs:List UInt8}{bad:Bool}(md nm:ByteArray)(ty mn mx:Int)(mu hs:Bool)(hty:inI ty)(hmn:inI mn)(hmx:inI mx)(h:Wr W w0 w v u bs bad)(hL:bs.length+(Bin.cat (Bin.pKind 0) (Bin.cat (Bin.pNum ty) (([],(!mu&&decide (mn=0/\mx=0/\hs=false)))))).1.length<=100000000):
  Calls prog 81 #[pW W,.agg #[.string md,.string nm,.int .i64 0,.int .i64 ty,.bool mu,.int .i64 mn,.int .i64 mx,.bool hs]] w (WrP W w0 w v u bs bad (Bin.cat (Bin.pKind 0) (Bin.cat (Bin.pNum ty) (([],(!mu&&decide (mn=0/\mx=0/\hs=false))))))):=by
 have HL:=hid hL
 have HX0:=hid (Bx.new h #[.string md,.string nm,.int .i64 0,.int .i64 ty,.bool mu,.int .i64 mn,.int .i64 mx,.bool hs] 77 _ rfl rfl)
 have HW0:=hid (h.alloc (.cells #[.string md,.string nm,.int .i64 0,.int .i64 ty,.bool mu,.int .i64 mn,.int .i64 mx,.bool hs] 77))
 have HK0:Hid (Kw W w v (w.alloc (.cells #[.string md,.string nm,.int .i64 0,.int .i64 ty,.bool mu,.int .i64 mn,.int .i64 mx,.bool hs] 77)) v):=hid (Kw.refl_.alloc _)
 obtain⟨D,hD⟩:∃D,(!mu&&decide (mn=0/\mx=0/\hs=false))=D:=⟨_,rfl⟩
 rw[hD]
 have HD:=hid hD
 clear h hL hD
 unfold WrP
 go_enter func81,ntmps81
 go_wp2_with(first
  |(go_at_call 97;(with_reducible refine(kind_any 0 (by unfold inI;omega) HW0.out (by have:=HL.out;simp only[Bin.cat,zz,zh,zl,Bin.pKind,Bin.pByte,Bin.pFlag]at this⊢;omega)).mono ?_);unfold WrP;rintro e w1 ⟨rfl,v1,hw1,hk1⟩;have HW1:=hid hw1;have HK1:=hid (HK0.out.trans hk1);have HX1:=hid (HX0.out.kw hk1);have x1_0:=HX1.out.cell 0 _ rfl;have x1_1:=HX1.out.cell 1 _ rfl;have x1_2:=HX1.out.cell 2 _ rfl;have x1_3:=HX1.out.cell 3 _ rfl;have x1_4:=HX1.out.cell 4 _ rfl;have x1_5:=HX1.out.cell 5 _ rfl;have x1_6:=HX1.out.cell 6 _ rfl;have x1_7:=HX1.out.cell 7 _ rfl;have xl:=HX1.out.lt;have HY1:=hid (Bx.new hw1 #[.string ⟨#[]⟩,.string ⟨#[]⟩,.int .i64 0,.int .i64 ty,.bool mu,.int .i64 mn,.int .i64 mx,.bool hs] 77 _ rfl rfl);have HWA:=hid (hw1.alloc (.cells #[.string ⟨#[]⟩,.string ⟨#[]⟩,.int .i64 0,.int .i64 ty,.bool mu,.int .i64 mn,.int .i64 mx,.bool hs] 77));have HKA:=hid ((HK0.out.trans hk1).alloc (.cells #[.string ⟨#[]⟩,.string ⟨#[]⟩,.int .i64 0,.int .i64 ty,.bool mu,.int .i64 mn,.int .i64 mx,.bool hs] 77));have fz1:∀i,(w1.alloc (.cells #[.string ⟨#[]⟩,.string ⟨#[]⟩,.int .i64 0,.int .i64 ty,.bool mu,.int .i64 mn,.int .i64 mx,.bool hs] 77)).frozen? ⟨w1.heap.size,i,none⟩=false:=(λi=>zw _ _ _ _ rfl);have FZ1:=hid fz1;clear fz1;clear hw1 hk1)
  |(go_at_call 84;(with_reducible refine(number_any ty hty HWA.out (by have:=HL.out;simp only[Bin.cat,zz,zh,zl,Bin.pKind,Bin.pByte,Bin.pFlag]at this⊢;omega)).mono ?_);unfold WrP;rintro e w2 ⟨rfl,v2,hw2,hk2⟩;have HW2:=hid hw2;have HK2:=hid (HKA.out.trans hk2);have HX2:=hid ((HX1.out.alloc _).kw hk2);have x2_0:=HX2.out.cell 0 _ rfl;have x2_1:=HX2.out.cell 1 _ rfl;have x2_2:=HX2.out.cell 2 _ rfl;have x2_3:=HX2.out.cell 3 _ rfl;have x2_4:=HX2.out.cell 4 _ rfl;have x2_5:=HX2.out.cell 5 _ rfl;have x2_6:=HX2.out.cell 6 _ rfl;have x2_7:=HX2.out.cell 7 _ rfl;have HY2:=hid (HY1.out.kw hk2);have FZ2:=hid (λi=>(qv (hk2.keep _ HY1.out.lt HY1.out.ne HY1.out.nv).1).trans (FZ1.out i));have f2_3:=FZ2.out 3;have f2_4:=FZ2.out 4;have f2_5:=FZ2.out 5;have f2_6:=FZ2.out 6;have f2_7:=FZ2.out 7;have y2_0:=HY2.out.cell 0 _ rfl;have y2_1:=HY2.out.cell 1 _ rfl;have y2_2:=HY2.out.cell 2 _ rfl;have y2_3:=HY2.out.cell 3 _ rfl;have y2_4:=HY2.out.cell 4 _ rfl;have y2_5:=HY2.out.cell 5 _ rfl;have y2_6:=HY2.out.cell 6 _ rfl;have y2_7:=HY2.out.cell 7 _ rfl;clear hw2 hk2)
  |(go_at_call 166;(with_reducible refine(refuse_any (HW2.out.setOther (HW1.out.below.size) HY2.out.ne HY2.out.nv 3 (.int .i64 0))).mono ?_);unfold WrP;rintro e w9 ⟨rfl,v9,hw9,hk9⟩;have HW9:=hid hw9;have HK9:=hid ((HK2.out.setNew (by have:=HK1.out.size;omega) 3 (.int .i64 0)).trans hk9);clear hw9 hk9))
 all_goals first
  |(
    have hT:D=false:=by
     have h1:=HD.out
     clear HL HX0 HW0 HK0 HD HW1 HX1 HY1 HWA HKA FZ1 HK1 HK9
     cases hd:D with
     |false=>rfl
     |true=>(rw[hd]at h1;exfalso;simp at h1;simp_all)
    go_end0
    exact⟨rfl,_,HW9.out.eq (by simp[Bin.cat]) (by rw[hT];cases bad<;>simp[Bin.cat]),HK9.out⟩)
  |(
    rename_i hq
    have hT:D=true:=by rw[<-HD.out];simp at hq;simp[hq]
    go_end0
    exact⟨rfl,_,(HW2.out.setOther (HW1.out.below.size) HY2.out.ne HY2.out.nv 3 (.int .i64 0)).eq (by simp[Bin.cat]) (by rw[hT];cases bad<;>simp[Bin.cat,Bin.pFlag]),(HK2.out.setNew (by have:=HK1.out.size;omega) 3 (.int .i64 0))⟩)
theorem imported_1{W:Nat}{w0 w:World}{v u:Value}{bs:List UInt8}{bad:Bool}(md nm:ByteArray)(ty mn mx:Int)(mu hs:Bool)(hty:inI ty)(hmn:inI mn)(hmx:inI mx)(h:Wr W w0 w v u bs bad)(hL:bs.length+(Bin.cat (Bin.pKind 1) (Bin.cat (Bin.pTab ⟨mn,mx,hs⟩) (([],(decide (ty=0)&&!mu))))).1.length<=100000000):
  Calls prog 81 #[pW W,.agg #[.string md,.string nm,.int .i64 1,.int .i64 ty,.bool mu,.int .i64 mn,.int .i64 mx,.bool hs]] w (WrP W w0 w v u bs bad (Bin.cat (Bin.pKind 1) (Bin.cat (Bin.pTab ⟨mn,mx,hs⟩) (([],(decide (ty=0)&&!mu)))))):=by
 have HL:=hid hL
 have HX0:=hid (Bx.new h #[.string md,.string nm,.int .i64 1,.int .i64 ty,.bool mu,.int .i64 mn,.int .i64 mx,.bool hs] 77 _ rfl rfl)
 have HW0:=hid (h.alloc (.cells #[.string md,.string nm,.int .i64 1,.int .i64 ty,.bool mu,.int .i64 mn,.int .i64 mx,.bool hs] 77))
 have HK0:Hid (Kw W w v (w.alloc (.cells #[.string md,.string nm,.int .i64 1,.int .i64 ty,.bool mu,.int .i64 mn,.int .i64 mx,.bool hs] 77)) v):=hid (Kw.refl_.alloc _)
 obtain⟨D,hD⟩:∃D,(decide (ty=0)&&!mu)=D:=⟨_,rfl⟩
 rw[hD]
 have HD:=hid hD
 clear h hL hD
 unfold WrP
 go_enter func81,ntmps81
 go_wp2_with(first
  |(go_at_call 97;(with_reducible refine(kind_any 1 (by unfold inI;omega) HW0.out (by have:=HL.out;simp only[Bin.cat,zz,zh,zl,Bin.pKind,Bin.pByte,Bin.pFlag]at this⊢;omega)).mono ?_);unfold WrP;rintro e w1 ⟨rfl,v1,hw1,hk1⟩;have HW1:=hid hw1;have HK1:=hid (HK0.out.trans hk1);have HX1:=hid (HX0.out.kw hk1);have x1_0:=HX1.out.cell 0 _ rfl;have x1_1:=HX1.out.cell 1 _ rfl;have x1_2:=HX1.out.cell 2 _ rfl;have x1_3:=HX1.out.cell 3 _ rfl;have x1_4:=HX1.out.cell 4 _ rfl;have x1_5:=HX1.out.cell 5 _ rfl;have x1_6:=HX1.out.cell 6 _ rfl;have x1_7:=HX1.out.cell 7 _ rfl;have xl:=HX1.out.lt;have HY1:=hid (Bx.new hw1 #[.string ⟨#[]⟩,.string ⟨#[]⟩,.int .i64 0,.int .i64 ty,.bool mu,.int .i64 mn,.int .i64 mx,.bool hs] 77 _ rfl rfl);have HWA:=hid (hw1.alloc (.cells #[.string ⟨#[]⟩,.string ⟨#[]⟩,.int .i64 0,.int .i64 ty,.bool mu,.int .i64 mn,.int .i64 mx,.bool hs] 77));have HKA:=hid ((HK0.out.trans hk1).alloc (.cells #[.string ⟨#[]⟩,.string ⟨#[]⟩,.int .i64 0,.int .i64 ty,.bool mu,.int .i64 mn,.int .i64 mx,.bool hs] 77));have fz1:∀i,(w1.alloc (.cells #[.string ⟨#[]⟩,.string ⟨#[]⟩,.int .i64 0,.int .i64 ty,.bool mu,.int .i64 mn,.int .i64 mx,.bool hs] 77)).frozen? ⟨w1.heap.size,i,none⟩=false:=(λi=>zw _ _ _ _ rfl);have FZ1:=hid fz1;clear fz1;clear hw1 hk1)
  |(go_at_call 87;(with_reducible refine(table_any ⟨mn,mx,hs⟩ ⟨hmn,hmx⟩ HWA.out (by have:=HL.out;simp only[Bin.cat,zz,zh,zl,Bin.pKind,Bin.pByte,Bin.pFlag]at this⊢;omega)).mono ?_);unfold WrP;rintro e w2 ⟨rfl,v2,hw2,hk2⟩;have HW2:=hid hw2;have HK2:=hid (HKA.out.trans hk2);have HX2:=hid ((HX1.out.alloc _).kw hk2);have x2_0:=HX2.out.cell 0 _ rfl;have x2_1:=HX2.out.cell 1 _ rfl;have x2_2:=HX2.out.cell 2 _ rfl;have x2_3:=HX2.out.cell 3 _ rfl;have x2_4:=HX2.out.cell 4 _ rfl;have x2_5:=HX2.out.cell 5 _ rfl;have x2_6:=HX2.out.cell 6 _ rfl;have x2_7:=HX2.out.cell 7 _ rfl;have HY2:=hid (HY1.out.kw hk2);have FZ2:=hid (λi=>(qv (hk2.keep _ HY1.out.lt HY1.out.ne HY1.out.nv).1).trans (FZ1.out i));have f2_3:=FZ2.out 3;have f2_4:=FZ2.out 4;have f2_5:=FZ2.out 5;have f2_6:=FZ2.out 6;have f2_7:=FZ2.out 7;have y2_0:=HY2.out.cell 0 _ rfl;have y2_1:=HY2.out.cell 1 _ rfl;have y2_2:=HY2.out.cell 2 _ rfl;have y2_3:=HY2.out.cell 3 _ rfl;have y2_4:=HY2.out.cell 4 _ rfl;have y2_5:=HY2.out.cell 5 _ rfl;have y2_6:=HY2.out.cell 6 _ rfl;have y2_7:=HY2.out.cell 7 _ rfl;clear hw2 hk2)
  |(go_at_call 166;(with_reducible refine(refuse_any (((HW2.out.setOther (HW1.out.below.size) HY2.out.ne HY2.out.nv 5 (.int .i64 0)).setOther (HW1.out.below.size) HY2.out.ne HY2.out.nv 6 (.int .i64 0)).setOther (HW1.out.below.size) HY2.out.ne HY2.out.nv 7 (.bool false))).mono ?_);unfold WrP;rintro e w9 ⟨rfl,v9,hw9,hk9⟩;have HW9:=hid hw9;have HK9:=hid ((((HK2.out.setNew (by have:=HK1.out.size;omega) 5 (.int .i64 0)).setNew (by have:=HK1.out.size;omega) 6 (.int .i64 0)).setNew (by have:=HK1.out.size;omega) 7 (.bool false)).trans hk9);clear hw9 hk9))
 all_goals first
  |(
    have hT:D=false:=by
     have h1:=HD.out
     clear HL HX0 HW0 HK0 HD HW1 HX1 HY1 HWA HKA FZ1 HK1 HK9
     cases hd:D with
     |false=>rfl
     |true=>(rw[hd]at h1;exfalso;simp at h1;simp_all)
    go_end0
    exact⟨rfl,_,HW9.out.eq (by simp[Bin.cat]) (by rw[hT];cases bad<;>simp[Bin.cat]),HK9.out⟩)
  |(
    rename_i hq
    have hT:D=true:=by rw[<-HD.out];simp at hq;simp[hq]
    go_end0
    exact⟨rfl,_,(((HW2.out.setOther (HW1.out.below.size) HY2.out.ne HY2.out.nv 5 (.int .i64 0)).setOther (HW1.out.below.size) HY2.out.ne HY2.out.nv 6 (.int .i64 0)).setOther (HW1.out.below.size) HY2.out.ne HY2.out.nv 7 (.bool false)).eq (by simp[Bin.cat]) (by rw[hT];cases bad<;>simp[Bin.cat,Bin.pFlag]),(((HK2.out.setNew (by have:=HK1.out.size;omega) 5 (.int .i64 0)).setNew (by have:=HK1.out.size;omega) 6 (.int .i64 0)).setNew (by have:=HK1.out.size;omega) 7 (.bool false))⟩)
theorem imported_2{W:Nat}{w0 w:World}{v u:Value}{bs:List UInt8}{bad:Bool}(md nm:ByteArray)(ty mn mx:Int)(mu hs:Bool)(hty:inI ty)(hmn:inI mn)(hmx:inI mx)(h:Wr W w0 w v u bs bad)(hL:bs.length+(Bin.cat (Bin.pKind 2) (Bin.cat (Bin.pLim ⟨mn,mx,hs⟩) (([],(decide (ty=0)&&!mu))))).1.length<=100000000):
  Calls prog 81 #[pW W,.agg #[.string md,.string nm,.int .i64 2,.int .i64 ty,.bool mu,.int .i64 mn,.int .i64 mx,.bool hs]] w (WrP W w0 w v u bs bad (Bin.cat (Bin.pKind 2) (Bin.cat (Bin.pLim ⟨mn,mx,hs⟩) (([],(decide (ty=0)&&!mu)))))):=by
 have HL:=hid hL
 have HX0:=hid (Bx.new h #[.string md,.string nm,.int .i64 2,.int .i64 ty,.bool mu,.int .i64 mn,.int .i64 mx,.bool hs] 77 _ rfl rfl)
 have HW0:=hid (h.alloc (.cells #[.string md,.string nm,.int .i64 2,.int .i64 ty,.bool mu,.int .i64 mn,.int .i64 mx,.bool hs] 77))
 have HK0:Hid (Kw W w v (w.alloc (.cells #[.string md,.string nm,.int .i64 2,.int .i64 ty,.bool mu,.int .i64 mn,.int .i64 mx,.bool hs] 77)) v):=hid (Kw.refl_.alloc _)
 obtain⟨D,hD⟩:∃D,(decide (ty=0)&&!mu)=D:=⟨_,rfl⟩
 rw[hD]
 have HD:=hid hD
 clear h hL hD
 unfold WrP
 go_enter func81,ntmps81
 go_wp2_with(first
  |(go_at_call 97;(with_reducible refine(kind_any 2 (by unfold inI;omega) HW0.out (by have:=HL.out;simp only[Bin.cat,zz,zh,zl,Bin.pKind,Bin.pByte,Bin.pFlag]at this⊢;omega)).mono ?_);unfold WrP;rintro e w1 ⟨rfl,v1,hw1,hk1⟩;have HW1:=hid hw1;have HK1:=hid (HK0.out.trans hk1);have HX1:=hid (HX0.out.kw hk1);have x1_0:=HX1.out.cell 0 _ rfl;have x1_1:=HX1.out.cell 1 _ rfl;have x1_2:=HX1.out.cell 2 _ rfl;have x1_3:=HX1.out.cell 3 _ rfl;have x1_4:=HX1.out.cell 4 _ rfl;have x1_5:=HX1.out.cell 5 _ rfl;have x1_6:=HX1.out.cell 6 _ rfl;have x1_7:=HX1.out.cell 7 _ rfl;have xl:=HX1.out.lt;have HY1:=hid (Bx.new hw1 #[.string ⟨#[]⟩,.string ⟨#[]⟩,.int .i64 0,.int .i64 ty,.bool mu,.int .i64 mn,.int .i64 mx,.bool hs] 77 _ rfl rfl);have HWA:=hid (hw1.alloc (.cells #[.string ⟨#[]⟩,.string ⟨#[]⟩,.int .i64 0,.int .i64 ty,.bool mu,.int .i64 mn,.int .i64 mx,.bool hs] 77));have HKA:=hid ((HK0.out.trans hk1).alloc (.cells #[.string ⟨#[]⟩,.string ⟨#[]⟩,.int .i64 0,.int .i64 ty,.bool mu,.int .i64 mn,.int .i64 mx,.bool hs] 77));have fz1:∀i,(w1.alloc (.cells #[.string ⟨#[]⟩,.string ⟨#[]⟩,.int .i64 0,.int .i64 ty,.bool mu,.int .i64 mn,.int .i64 mx,.bool hs] 77)).frozen? ⟨w1.heap.size,i,none⟩=false:=(λi=>zw _ _ _ _ rfl);have FZ1:=hid fz1;clear fz1;clear hw1 hk1)
  |(go_at_call 89;(with_reducible refine(limits_any ⟨mn,mx,hs⟩ ⟨hmn,hmx⟩ HWA.out (by have:=HL.out;simp only[Bin.cat,zz,zh,zl,Bin.pKind,Bin.pByte,Bin.pFlag]at this⊢;omega)).mono ?_);unfold WrP;rintro e w2 ⟨rfl,v2,hw2,hk2⟩;have HW2:=hid hw2;have HK2:=hid (HKA.out.trans hk2);have HX2:=hid ((HX1.out.alloc _).kw hk2);have x2_0:=HX2.out.cell 0 _ rfl;have x2_1:=HX2.out.cell 1 _ rfl;have x2_2:=HX2.out.cell 2 _ rfl;have x2_3:=HX2.out.cell 3 _ rfl;have x2_4:=HX2.out.cell 4 _ rfl;have x2_5:=HX2.out.cell 5 _ rfl;have x2_6:=HX2.out.cell 6 _ rfl;have x2_7:=HX2.out.cell 7 _ rfl;have HY2:=hid (HY1.out.kw hk2);have FZ2:=hid (λi=>(qv (hk2.keep _ HY1.out.lt HY1.out.ne HY1.out.nv).1).trans (FZ1.out i));have f2_3:=FZ2.out 3;have f2_4:=FZ2.out 4;have f2_5:=FZ2.out 5;have f2_6:=FZ2.out 6;have f2_7:=FZ2.out 7;have y2_0:=HY2.out.cell 0 _ rfl;have y2_1:=HY2.out.cell 1 _ rfl;have y2_2:=HY2.out.cell 2 _ rfl;have y2_3:=HY2.out.cell 3 _ rfl;have y2_4:=HY2.out.cell 4 _ rfl;have y2_5:=HY2.out.cell 5 _ rfl;have y2_6:=HY2.out.cell 6 _ rfl;have y2_7:=HY2.out.cell 7 _ rfl;clear hw2 hk2)
  |(go_at_call 166;(with_reducible refine(refuse_any (((HW2.out.setOther (HW1.out.below.size) HY2.out.ne HY2.out.nv 5 (.int .i64 0)).setOther (HW1.out.below.size) HY2.out.ne HY2.out.nv 6 (.int .i64 0)).setOther (HW1.out.below.size) HY2.out.ne HY2.out.nv 7 (.bool false))).mono ?_);unfold WrP;rintro e w9 ⟨rfl,v9,hw9,hk9⟩;have HW9:=hid hw9;have HK9:=hid ((((HK2.out.setNew (by have:=HK1.out.size;omega) 5 (.int .i64 0)).setNew (by have:=HK1.out.size;omega) 6 (.int .i64 0)).setNew (by have:=HK1.out.size;omega) 7 (.bool false)).trans hk9);clear hw9 hk9))
 all_goals first
  |(
    have hT:D=false:=by
     have h1:=HD.out
     clear HL HX0 HW0 HK0 HD HW1 HX1 HY1 HWA HKA FZ1 HK1 HK9
     cases hd:D with
     |false=>rfl
     |true=>(rw[hd]at h1;exfalso;simp at h1;simp_all)
    go_end0
    exact⟨rfl,_,HW9.out.eq (by simp[Bin.cat]) (by rw[hT];cases bad<;>simp[Bin.cat]),HK9.out⟩)
  |(
    rename_i hq
    have hT:D=true:=by rw[<-HD.out];simp at hq;simp[hq]
    go_end0
    exact⟨rfl,_,(((HW2.out.setOther (HW1.out.below.size) HY2.out.ne HY2.out.nv 5 (.int .i64 0)).setOther (HW1.out.below.size) HY2.out.ne HY2.out.nv 6 (.int .i64 0)).setOther (HW1.out.below.size) HY2.out.ne HY2.out.nv 7 (.bool false)).eq (by simp[Bin.cat]) (by rw[hT];cases bad<;>simp[Bin.cat,Bin.pFlag]),(((HK2.out.setNew (by have:=HK1.out.size;omega) 5 (.int .i64 0)).setNew (by have:=HK1.out.size;omega) 6 (.int .i64 0)).setNew (by have:=HK1.out.size;omega) 7 (.bool false))⟩)
theorem imported_3{W:Nat}{w0 w:World}{v u:Value}{bs:List UInt8}{bad:Bool}(md nm:ByteArray)(ty mn mx:Int)(mu hs:Bool)(hty:inI ty)(hmn:inI mn)(hmx:inI mx)(h:Wr W w0 w v u bs bad)(hL:bs.length+(Bin.cat (Bin.pKind 3) (Bin.cat (Bin.pType ty) (Bin.cat (Bin.pFlag mu) (([],(decide (mn=0/\mx=0/\hs=false))))))).1.length<=100000000):
  Calls prog 81 #[pW W,.agg #[.string md,.string nm,.int .i64 3,.int .i64 ty,.bool mu,.int .i64 mn,.int .i64 mx,.bool hs]] w (WrP W w0 w v u bs bad (Bin.cat (Bin.pKind 3) (Bin.cat (Bin.pType ty) (Bin.cat (Bin.pFlag mu) (([],(decide (mn=0/\mx=0/\hs=false)))))))):=by
 have HL:=hid hL
 have HX0:=hid (Bx.new h #[.string md,.string nm,.int .i64 3,.int .i64 ty,.bool mu,.int .i64 mn,.int .i64 mx,.bool hs] 77 _ rfl rfl)
 have HW0:=hid (h.alloc (.cells #[.string md,.string nm,.int .i64 3,.int .i64 ty,.bool mu,.int .i64 mn,.int .i64 mx,.bool hs] 77))
 have HK0:Hid (Kw W w v (w.alloc (.cells #[.string md,.string nm,.int .i64 3,.int .i64 ty,.bool mu,.int .i64 mn,.int .i64 mx,.bool hs] 77)) v):=hid (Kw.refl_.alloc _)
 obtain⟨D,hD⟩:∃D,(decide (mn=0/\mx=0/\hs=false))=D:=⟨_,rfl⟩
 rw[hD]
 have HD:=hid hD
 clear h hL hD
 unfold WrP
 go_enter func81,ntmps81
 go_wp2_with(first
  |(go_at_call 97;(with_reducible refine(kind_any 3 (by unfold inI;omega) HW0.out (by have:=HL.out;simp only[Bin.cat,zz,zh,zl,Bin.pKind,Bin.pByte,Bin.pFlag]at this⊢;omega)).mono ?_);unfold WrP;rintro e w1 ⟨rfl,v1,hw1,hk1⟩;have HW1:=hid hw1;have HK1:=hid (HK0.out.trans hk1);have HX1:=hid (HX0.out.kw hk1);have x1_0:=HX1.out.cell 0 _ rfl;have x1_1:=HX1.out.cell 1 _ rfl;have x1_2:=HX1.out.cell 2 _ rfl;have x1_3:=HX1.out.cell 3 _ rfl;have x1_4:=HX1.out.cell 4 _ rfl;have x1_5:=HX1.out.cell 5 _ rfl;have x1_6:=HX1.out.cell 6 _ rfl;have x1_7:=HX1.out.cell 7 _ rfl;have xl:=HX1.out.lt;have HY1:=hid (Bx.new hw1 #[.string ⟨#[]⟩,.string ⟨#[]⟩,.int .i64 0,.int .i64 ty,.bool mu,.int .i64 mn,.int .i64 mx,.bool hs] 77 _ rfl rfl);have HWA:=hid (hw1.alloc (.cells #[.string ⟨#[]⟩,.string ⟨#[]⟩,.int .i64 0,.int .i64 ty,.bool mu,.int .i64 mn,.int .i64 mx,.bool hs] 77));have HKA:=hid ((HK0.out.trans hk1).alloc (.cells #[.string ⟨#[]⟩,.string ⟨#[]⟩,.int .i64 0,.int .i64 ty,.bool mu,.int .i64 mn,.int .i64 mx,.bool hs] 77));have fz1:∀i,(w1.alloc (.cells #[.string ⟨#[]⟩,.string ⟨#[]⟩,.int .i64 0,.int .i64 ty,.bool mu,.int .i64 mn,.int .i64 mx,.bool hs] 77)).frozen? ⟨w1.heap.size,i,none⟩=false:=(λi=>zw _ _ _ _ rfl);have FZ1:=hid fz1;clear fz1;clear hw1 hk1)
  |(go_at_call 92;(with_reducible refine(valueType_any ty hty HWA.out (by have:=HL.out;simp only[Bin.cat,zz,zh,zl,Bin.pKind,Bin.pByte,Bin.pFlag]at this⊢;omega)).mono ?_);unfold WrP;rintro e w2 ⟨rfl,v2,hw2,hk2⟩;have HW2:=hid hw2;have HK2:=hid (HKA.out.trans hk2);have HX2:=hid ((HX1.out.alloc _).kw hk2);have x2_0:=HX2.out.cell 0 _ rfl;have x2_1:=HX2.out.cell 1 _ rfl;have x2_2:=HX2.out.cell 2 _ rfl;have x2_3:=HX2.out.cell 3 _ rfl;have x2_4:=HX2.out.cell 4 _ rfl;have x2_5:=HX2.out.cell 5 _ rfl;have x2_6:=HX2.out.cell 6 _ rfl;have x2_7:=HX2.out.cell 7 _ rfl;have HY2:=hid (HY1.out.kw hk2);have FZ2:=hid (λi=>(qv (hk2.keep _ HY1.out.lt HY1.out.ne HY1.out.nv).1).trans (FZ1.out i));have f2_3:=FZ2.out 3;have f2_4:=FZ2.out 4;have f2_5:=FZ2.out 5;have f2_6:=FZ2.out 6;have f2_7:=FZ2.out 7;have y2_0:=HY2.out.cell 0 _ rfl;have y2_1:=HY2.out.cell 1 _ rfl;have y2_2:=HY2.out.cell 2 _ rfl;have y2_3:=HY2.out.cell 3 _ rfl;have y2_4:=HY2.out.cell 4 _ rfl;have y2_5:=HY2.out.cell 5 _ rfl;have y2_6:=HY2.out.cell 6 _ rfl;have y2_7:=HY2.out.cell 7 _ rfl;clear hw2 hk2)
  |(go_at_call 93;(with_reducible refine(flag_any mu HW2.out (by have:=HL.out;simp only[Bin.cat,zz,zh,zl,Bin.pKind,Bin.pByte,Bin.pFlag]at this⊢;omega)).mono ?_);unfold WrP;rintro e w3 ⟨rfl,v3,hw3,hk3⟩;have HW3:=hid hw3;have HK3:=hid (HK2.out.trans hk3);have HX3:=hid (HX2.out.kw hk3);have x3_0:=HX3.out.cell 0 _ rfl;have x3_1:=HX3.out.cell 1 _ rfl;have x3_2:=HX3.out.cell 2 _ rfl;have x3_3:=HX3.out.cell 3 _ rfl;have x3_4:=HX3.out.cell 4 _ rfl;have x3_5:=HX3.out.cell 5 _ rfl;have x3_6:=HX3.out.cell 6 _ rfl;have x3_7:=HX3.out.cell 7 _ rfl;have HY3:=hid (HY2.out.kw hk3);have FZ3:=hid (λi=>(qv (hk3.keep _ HY2.out.lt HY2.out.ne HY2.out.nv).1).trans (FZ2.out i));have f3_3:=FZ3.out 3;have f3_4:=FZ3.out 4;have f3_5:=FZ3.out 5;have f3_6:=FZ3.out 6;have f3_7:=FZ3.out 7;have y3_0:=HY3.out.cell 0 _ rfl;have y3_1:=HY3.out.cell 1 _ rfl;have y3_2:=HY3.out.cell 2 _ rfl;have y3_3:=HY3.out.cell 3 _ rfl;have y3_4:=HY3.out.cell 4 _ rfl;have y3_5:=HY3.out.cell 5 _ rfl;have y3_6:=HY3.out.cell 6 _ rfl;have y3_7:=HY3.out.cell 7 _ rfl;clear hw3 hk3)
  |(go_at_call 166;(with_reducible refine(refuse_any ((HW3.out.setOther (HW1.out.below.size) HY3.out.ne HY3.out.nv 3 (.int .i64 0)).setOther (HW1.out.below.size) HY3.out.ne HY3.out.nv 4 (.bool false))).mono ?_);unfold WrP;rintro e w9 ⟨rfl,v9,hw9,hk9⟩;have HW9:=hid hw9;have HK9:=hid (((HK3.out.setNew (by have:=HK1.out.size;omega) 3 (.int .i64 0)).setNew (by have:=HK1.out.size;omega) 4 (.bool false)).trans hk9);clear hw9 hk9))
 all_goals first
  |(
    have hT:D=false:=by
     have h1:=HD.out
     clear HL HX0 HW0 HK0 HD HW1 HX1 HY1 HWA HKA FZ1 HK1 HK9
     cases hd:D with
     |false=>rfl
     |true=>(rw[hd]at h1;exfalso;simp at h1;simp_all)
    go_end0
    exact⟨rfl,_,HW9.out.eq (by simp[Bin.cat]) (by rw[hT];cases bad<;>simp[Bin.cat]),HK9.out⟩)
  |(
    rename_i hq
    have hT:D=true:=by rw[<-HD.out];simp at hq;simp[hq]
    go_end0
    exact⟨rfl,_,((HW3.out.setOther (HW1.out.below.size) HY3.out.ne HY3.out.nv 3 (.int .i64 0)).setOther (HW1.out.below.size) HY3.out.ne HY3.out.nv 4 (.bool false)).eq (by simp[Bin.cat]) (by rw[hT];cases bad<;>simp[Bin.cat,Bin.pFlag]),((HK3.out.setNew (by have:=HK1.out.size;omega) 3 (.int .i64 0)).setNew (by have:=HK1.out.size;omega) 4 (.bool false))⟩)
theorem imported_n{W:Nat}{w0 w:World}{v u:Value}{bs:List UInt8}{bad:Bool}(md nm:ByteArray)(k ty mn mx:Int)(mu hs:Bool)(hty:inI ty)(hmn:inI mn)(hmx:inI mx)(hk:inI k)(k0:(k==0)=false)(k1:(k==1)=false)(k2:(k==2)=false)(k3:(k==3)=false)(h:Wr W w0 w v u bs bad)(hL:bs.length+(Bin.cat (Bin.pKind k) (([],(decide (ty=0)&&!mu&&decide (mn=0/\mx=0/\hs=false))))).1.length<=100000000):
  Calls prog 81 #[pW W,.agg #[.string md,.string nm,.int .i64 k,.int .i64 ty,.bool mu,.int .i64 mn,.int .i64 mx,.bool hs]] w (WrP W w0 w v u bs bad (Bin.cat (Bin.pKind k) (([],(decide (ty=0)&&!mu&&decide (mn=0/\mx=0/\hs=false)))))):=by
 have HL:=hid hL
 have HX0:=hid (Bx.new h #[.string md,.string nm,.int .i64 k,.int .i64 ty,.bool mu,.int .i64 mn,.int .i64 mx,.bool hs] 77 _ rfl rfl)
 have HW0:=hid (h.alloc (.cells #[.string md,.string nm,.int .i64 k,.int .i64 ty,.bool mu,.int .i64 mn,.int .i64 mx,.bool hs] 77))
 have HK0:Hid (Kw W w v (w.alloc (.cells #[.string md,.string nm,.int .i64 k,.int .i64 ty,.bool mu,.int .i64 mn,.int .i64 mx,.bool hs] 77)) v):=hid (Kw.refl_.alloc _)
 obtain⟨D,hD⟩:∃D,(decide (ty=0)&&!mu&&decide (mn=0/\mx=0/\hs=false))=D:=⟨_,rfl⟩
 rw[hD]
 have HD:=hid hD
 clear h hL hD
 unfold WrP
 go_enter func81,ntmps81
 go_wp2_with(first
  |(go_at_call 97;(with_reducible refine(kind_any k hk HW0.out (by have:=HL.out;simp only[Bin.cat,zz,zh,zl,Bin.pKind,Bin.pByte,Bin.pFlag]at this⊢;omega)).mono ?_);unfold WrP;rintro e w1 ⟨rfl,v1,hw1,hk1⟩;have HW1:=hid hw1;have HK1:=hid (HK0.out.trans hk1);have HX1:=hid (HX0.out.kw hk1);have x1_0:=HX1.out.cell 0 _ rfl;have x1_1:=HX1.out.cell 1 _ rfl;have x1_2:=HX1.out.cell 2 _ rfl;have x1_3:=HX1.out.cell 3 _ rfl;have x1_4:=HX1.out.cell 4 _ rfl;have x1_5:=HX1.out.cell 5 _ rfl;have x1_6:=HX1.out.cell 6 _ rfl;have x1_7:=HX1.out.cell 7 _ rfl;have xl:=HX1.out.lt;have HY1:=hid (Bx.new hw1 #[.string ⟨#[]⟩,.string ⟨#[]⟩,.int .i64 0,.int .i64 ty,.bool mu,.int .i64 mn,.int .i64 mx,.bool hs] 77 _ rfl rfl);have HWA:=hid (hw1.alloc (.cells #[.string ⟨#[]⟩,.string ⟨#[]⟩,.int .i64 0,.int .i64 ty,.bool mu,.int .i64 mn,.int .i64 mx,.bool hs] 77));have HKA:=hid ((HK0.out.trans hk1).alloc (.cells #[.string ⟨#[]⟩,.string ⟨#[]⟩,.int .i64 0,.int .i64 ty,.bool mu,.int .i64 mn,.int .i64 mx,.bool hs] 77));have fz1:∀i,(w1.alloc (.cells #[.string ⟨#[]⟩,.string ⟨#[]⟩,.int .i64 0,.int .i64 ty,.bool mu,.int .i64 mn,.int .i64 mx,.bool hs] 77)).frozen? ⟨w1.heap.size,i,none⟩=false:=(λi=>zw _ _ _ _ rfl);have FZ1:=hid fz1;clear fz1;clear hw1 hk1)
  |(go_at_call 166;(with_reducible refine(refuse_any HWA.out).mono ?_);unfold WrP;rintro e w9 ⟨rfl,v9,hw9,hk9⟩;have HW9:=hid hw9;have HK9:=hid (HKA.out.trans hk9);clear hw9 hk9))
 all_goals first
  |(
    have hT:D=false:=by
     have h1:=HD.out
     clear HL HX0 HW0 HK0 HD HW1 HX1 HY1 HWA HKA FZ1 HK1 HK9
     cases hd:D with
     |false=>rfl
     |true=>(rw[hd]at h1;exfalso;simp at h1;simp_all)
    go_end0
    exact⟨rfl,_,HW9.out.eq (by simp[Bin.cat]) (by rw[hT];cases bad<;>simp[Bin.cat]),HK9.out⟩)
  |(
    rename_i hq
    have hT:D=true:=by rw[<-HD.out];simp at hq;simp[hq]
    go_end0
    exact⟨rfl,_,HWA.out.eq (by simp[Bin.cat]) (by rw[hT];cases bad<;>simp[Bin.cat,Bin.pFlag]),HKA.out⟩)
end Go.Proofs.YteoijlfipmaoeaaGreatDoor
