import Derived.Test.YteoijlfipmaoeaaGreatDoorPJ13
set_option linter.unusedVariables false
set_option linter.unusedSimpArgs false
set_option maxRecDepth 100000
set_option maxHeartbeats 4000000
namespace Go.Proofs.YteoijlfipmaoeaaGreatDoor
open Lib (hid)
open Go.RowKit Trx
open Go.Proofs.Tryz
theorem drop_at{bs:List UInt8}{p:Nat}{b:UInt8}(h:bs[p]? =some b):bs.drop p=b::bs.drop (p+1):=by
 obtain⟨hl,hg⟩:=List.getElem?_eq_some_iff.1 h
 rw[ji hl,hg]
theorem at_end{bs:List UInt8}{p:Nat}(h:bs[p]? =none)(hp:p<=bs.length):p=bs.length/\bs.drop p=[]:=by
 have:=List.getElem?_eq_none_iff.1 h
 exact⟨by omega,xp this⟩
theorem must_cons(x b:UInt8)(r:List UInt8)(p:Nat):rdMust x (b::r) p=if b=x then .ok ((),r,p+1)else .error (2,p):=rfl
theorem kind_cons(b:UInt8)(r:List UInt8)(p:Nat):rdKind (b::r) p=if b=64 then .ok (0,r,p+1)else if b=127 then .ok (1,r,p+1)else if b=126 then .ok (2,r,p+1)else if b=125\/b=124 then .error (3,p)else .error (2,p):=rfl
theorem u8_ne{b:UInt8}{k:Nat}{x:UInt8}(h:b≠x)(hk:x.toNat=k):((b.toNat:Int)==(k:Int))=false:=by
 have:b.toNat≠k:=λe=>h (UInt8.toNat_inj.1 (by rw[e,hk]))
 simp;omega
theorem ret_two{a b c d:Value}(h:a=c)(h2:b=d):Ending.returned (.tuple #[a,b])=.returned (.tuple #[c,d]):=by rw[h,h2]
@[reducible] def Only(R:Nat):Nat->Prop:=λb=>b=R
section
variable{R:Nat}{w:World}{A:Option Addr}{c:Nat}{bs:List UInt8}{p n:Nat}
theorem Rdr.w1(h:Rdr R w A c bs p n):Rdr R w.drew A c bs p n:=h.drewN 1
theorem Kx.w1{M:Nat->Prop}:Kx M w w.drew:=Kx.refl_.drewN 1
theorem number_ok(h:Rdr R w A c bs p n)(x:Int)(l':List UInt8)(p':Nat)(hr:rdInt (bs.drop p) p=.ok (x,l',p')):
  Calls prog 282 #[.pointer (some ⟨R,0,none⟩)] w λe w'=>e=.returned (.tuple #[.int .i64 x,.nilIface])/\Rdr R w' A c bs p' n/\Kx (Only R) w w':=by
 obtain⟨hx,hadv⟩:=int_got hr
 obtain⟨-,-,hp'⟩:=Adv.dropped hadv h.hp
 have hx':=(num32_iff _).1 hx
 have hU:Leb.uOf bs p 32=some (x.toNat,p'):=by
  rw[Leb.uOf_drop]
  unfold rdInt at hr
  split at hr
  ·cases hr
  ·
   rename_i u k hu
   injection hr with hr
   simp only[Prod.mk.injEq]at hr
   obtain⟨rfl,-,rfl⟩:=hr
   rw[hu];simp
 have c0:=h.c0
 have c1:=h.c1
 have x0:=hx'.1
 have x1:=hx'.2
 have HC:=hid (U_int (w:=w.drew) (at_:=p) (bits:=32) (some (x.toNat,p')) h.w1.sl' (zq _) rfl h.hc h.hm (by decide) (by decide) (by omega) (by have:=h.hp;omega) (by simpa using hU))
 unfold luV at HC
 dsimp only at HC
 rw[Int.toNat_of_nonneg x0]at HC
 have hf:=h.fr 1
 have HR:=hid h
 have HP:=hid hp'
 have hlt:=h.lt
 clear h hx hadv hU hx' hr hp'
 go_enter func282,ntmps282
 go_wp2_with fail
 refine wp_region_held_drew (S:=λw'=>w'.cell? ⟨R,0,none⟩=some (.slice A bs.length c)/\w'.cell? ⟨R,1,none⟩=some (.int .i64 p)) (by kernel_rfl) ⟨c0,c1⟩ (λhHeld=>?_)
 refine rtk 0 8 ?_
 refine rtk 1 9 ?_
 refine rtk 2 10 ?_
 refine rtk 3 11 ?_
 refine rtk 4 12 ?_
 refine rtk 5 13 ?_
 refine rtk 6 14 ?_
 refine rtk 7 15 ?_
 refine rcl 8 λK hK=>?_
 go_simp
 refine HC.out.mono ?_
 rintro e w1 ⟨rfl,nq,hw1⟩
 have HR1:Hid (Rdr R w1 A c bs p n):=hid (by rw[hw1];exact HR.out.w1.drewN nq)
 have HK1:Hid (Kx (Only R) w w1):=hid (by rw[hw1];exact Kx.w1.drewN nq)
 have d0:=HR1.out.c0
 have d1:=HR1.out.c1
 have df:=HR1.out.fr 1
 have hlt1:=HR1.out.lt
 clear hw1 hHeld c0 c1 hf hlt
 go_wp2_with fail
 refine rbk hK ⟨d0,d1⟩ λhHeld=>?_;clear hK K
 refine rtk 9 7 ?_
 refine rtk 10 17 ?_
 refine rtk 11 18 ?_
 refine rtk 12 19 ?_
 refine rtk 13 4 ?_
 refine rtk 14 5 ?_
 refine rtk 15 6 ?_
 refine wpAnyH_done (by kernel_rfl) ?_ _
 clear hHeld
 go_wp2_with fail
 go_ret2
 exact⟨ret_two (by congr 1) rfl,HR1.out.setAt HP.out,HK1.out.setCell (.inl rfl) _⟩
theorem number_err(h:Rdr R w A c bs p n)(er:Nat×Nat)(hr:rdInt (bs.drop p) p=.error er):
  Calls prog 282 #[.pointer (some ⟨R,0,none⟩)] w λe w'=>∃v,e=.returned (.tuple #[.int .i64 0,v])/\SpotIs w' v er.2 er.1/\Kx (Only R) w w':=by
 have hU:Leb.uOf bs p 32=none/\er=(2,p):=by
  rw[Leb.uOf_drop]
  unfold rdInt at hr
  split at hr
  ·
   rename_i hu
   injection hr with hr
   rw[hu]
   exact⟨rfl,hr.symm⟩
  ·cases hr
 obtain⟨hU,rfl⟩:=hU
 have c0:=h.c0
 have c1:=h.c1
 have HC:=hid (U_int (w:=w.drew) (at_:=p) (bits:=32) none h.w1.sl' (zq _) rfl h.hc h.hm (by decide) (by decide) (by omega) (by have:=h.hp;omega) (by simpa using hU))
 unfold luV at HC
 have HR:=hid h
 clear h hU hr
 go_enter func282,ntmps282
 go_wp2_with fail
 refine wp_region_held_drew (S:=λw'=>w'.cell? ⟨R,0,none⟩=some (.slice A bs.length c)/\w'.cell? ⟨R,1,none⟩=some (.int .i64 p)) (by kernel_rfl) ⟨c0,c1⟩ (λhHeld=>?_)
 refine rtk 0 8 ?_
 refine rtk 1 9 ?_
 refine rtk 2 10 ?_
 refine rtk 3 11 ?_
 refine rtk 4 12 ?_
 refine rtk 5 13 ?_
 refine rtk 6 14 ?_
 refine rtk 7 15 ?_
 refine rcl 8 λK hK=>?_
 go_simp
 refine HC.out.mono ?_
 rintro e w1 ⟨rfl,nq,hw1⟩
 have HR1:Hid (Rdr R w1 A c bs p n):=hid (by rw[hw1];exact HR.out.w1.drewN nq)
 have HK1:Hid (Kx (Only R) w w1):=hid (by rw[hw1];exact Kx.w1.drewN nq)
 have d0:=HR1.out.c0
 have d1:=HR1.out.c1
 clear hw1 hHeld c0 c1
 go_wp2_with fail
 refine rbk hK ⟨d0,d1⟩ λhHeld=>?_;clear hK K
 refine rtk 9 7 ?_
 refine rtk 10 17 ?_
 refine rtk 11 18 ?_
 refine rtk 12 19 ?_
 refine rtk 13 4 ?_
 refine rtk 14 5 ?_
 refine rtk 15 6 ?_
 refine wpAnyH_done (by kernel_rfl) ?_ _
 clear hHeld
 go_wp2_with(first|(go_at_call 279;(with_reducible refine(fault_any _ HR1.out).mono ?_);rintro e w2 ⟨v,rfl,hs,hb⟩;have HSp:=hid hs;have HB:=hid hb;clear hs hb))
 go_ret2
 exact⟨_,rfl,HSp.out,HK1.out.trans (.of_below HB.out)⟩
theorem constant_ok(h:Rdr R w A c bs p n)(t:Int)(bits:Nat)(z:Int)(l':List UInt8)(p':Nat)(hb:(t=1/\bits=32)\/(t=2/\bits=64))(hr:rdSig bits (bs.drop p) p=.ok (z,l',p')):
  Calls prog 285 #[.pointer (some ⟨R,0,none⟩),.int .i64 t] w λe w'=>e=.returned (.tuple #[.int .u64 (z%(2^bits:Int)),.nilIface])/\Rdr R w' A c bs p' n/\Kx (Only R) w w':=by
 have hadv:∃m,Adv (bs.drop p) p l' p' m:=by
  rcases hb with⟨-,rfl⟩|⟨-,rfl⟩
  ·exact⟨_,(sig32_got hr).2⟩
  ·exact⟨_,(sig64_got hr).2⟩
 obtain⟨_,hadv⟩:=hadv
 obtain⟨-,-,hp'⟩:=Adv.dropped hadv h.hp
 have hS:Leb.sOf bs p bits=some (z,p')/\Leb.sOf (bs.drop p) 0 bits=some (z,p'-p):=by
  rw[Leb.sOf_drop]
  unfold rdSig at hr
  split at hr
  ·cases hr
  ·
   rename_i u k hu
   injection hr with hr
   simp only[Prod.mk.injEq]at hr
   obtain⟨rfl,-,rfl⟩:=hr
   rw[hu];simp
 obtain⟨hS,hS'⟩:=hS
 have HRr:=hid h
 have HP:=hid hp'
 have c0:=h.c0
 have c1:=h.c1
 have hf:=h.fr 1
 have hlt:=h.lt
 rcases hb with⟨rfl,rfl⟩|⟨rfl,rfl⟩
 ·
  obtain⟨z0,z1⟩:=Leb.sOf_range32 _ _ _ hS'
  have HC:=hid (S_int (w:=w.drew) (at_:=p) (bits:=32) (some (z,p')) h.w1.sl' (zq _) rfl h.hc h.hm (by decide) (by decide) (by omega) (by have:=h.hp;omega) (by simpa using hS))
  unfold sV at HC
  obtain⟨y,hy⟩:∃y,y=z%(2^32:Int):=⟨_,rfl⟩
  rw[<-hy]
  have HY:=hid hy
  clear h hadv hS hS' hr hp' hy
  go_enter func285,ntmps285
  go_wp2_with fail
  refine wp_region_held_drew (S:=λw'=>w'.cell? ⟨R,0,none⟩=some (.slice A bs.length c)/\w'.cell? ⟨R,1,none⟩=some (.int .i64 p)) (by kernel_rfl) ⟨c0,c1⟩ (λhHeld=>?_)
  refine rtk 0 13 ?_
  refine rtk 1 14 ?_
  refine rtk 2 15 ?_
  refine rtk 3 16 ?_
  refine rtk 4 17 ?_
  refine rtk 5 18 ?_
  refine rtk 6 19 ?_
  refine rtk 7 20 ?_
  refine rtk 8 21 ?_
  refine rcl 9 λK hK=>?_
  go_simp
  refine HC.out.mono ?_
  rintro e w1 ⟨rfl,hw1⟩
  have HR1:Hid (Rdr R w1 A c bs p n):=hid (by rw[<-hw1];exact HRr.out.w1)
  have HK1:Hid (Kx (Only R) w w1):=hid (by rw[<-hw1];exact Kx.w1)
  have d0:=HR1.out.c0
  have d1:=HR1.out.c1
  have df:=HR1.out.fr 1
  have hlt1:=HR1.out.lt
  clear hw1 hHeld c0 c1 hf hlt
  go_wp2_with fail
  refine rbk hK ⟨d0,d1⟩ λhHeld=>?_;clear hK K
  refine rtk 10 12 ?_
  refine rtk 11 23 ?_
  refine rtk 12 24 ?_
  refine rtk 13 25 ?_
  refine rtk 14 7 ?_
  refine rtk 15 8 ?_
  refine rtk 16 9 ?_
  refine wpAnyH_done (by kernel_rfl) ?_ _
  clear hHeld
  go_wp2_with fail
  go_ret2
  refine⟨ret_two (congrArg (Value.int .u64) ?_) rfl,HR1.out.setAt HP.out,HK1.out.setCell (.inl rfl) _⟩
  rw[HY.out]
  rfl
 ·
  obtain⟨z0,z1⟩:=Leb.sOf_range64 _ _ _ hS'
  have HC:=hid (S_int (w:=w.drew) (at_:=p) (bits:=64) (some (z,p')) h.w1.sl' (zq _) rfl h.hc h.hm (by decide) (by decide) (by omega) (by have:=h.hp;omega) (by simpa using hS))
  unfold sV at HC
  obtain⟨y,hy⟩:∃y,y=z%(2^64:Int):=⟨_,rfl⟩
  rw[<-hy]
  have HY:=hid hy
  clear h hadv hS hS' hr hp' hy
  go_enter func285,ntmps285
  go_wp2_with fail
  refine wp_region_held_drew (S:=λw'=>w'.cell? ⟨R,0,none⟩=some (.slice A bs.length c)/\w'.cell? ⟨R,1,none⟩=some (.int .i64 p)) (by kernel_rfl) ⟨c0,c1⟩ (λhHeld=>?_)
  refine rtk 0 13 ?_
  refine rtk 1 14 ?_
  refine rtk 2 15 ?_
  refine rtk 3 16 ?_
  refine rtk 4 17 ?_
  refine rtk 5 18 ?_
  refine rtk 6 19 ?_
  refine rtk 7 20 ?_
  refine rtk 8 21 ?_
  refine rcl 9 λK hK=>?_
  go_simp
  refine HC.out.mono ?_
  rintro e w1 ⟨rfl,hw1⟩
  have HR1:Hid (Rdr R w1 A c bs p n):=hid (by rw[<-hw1];exact HRr.out.w1)
  have HK1:Hid (Kx (Only R) w w1):=hid (by rw[<-hw1];exact Kx.w1)
  have d0:=HR1.out.c0
  have d1:=HR1.out.c1
  have df:=HR1.out.fr 1
  have hlt1:=HR1.out.lt
  clear hw1 hHeld c0 c1 hf hlt
  go_wp2_with fail
  refine rbk hK ⟨d0,d1⟩ λhHeld=>?_;clear hK K
  refine rtk 10 12 ?_
  refine rtk 11 23 ?_
  refine rtk 12 24 ?_
  refine rtk 13 25 ?_
  refine rtk 14 7 ?_
  refine rtk 15 8 ?_
  refine rtk 16 9 ?_
  refine wpAnyH_done (by kernel_rfl) ?_ _
  clear hHeld
  go_wp2_with fail
  go_ret2
  refine⟨ret_two (congrArg (Value.int .u64) ?_) rfl,HR1.out.setAt HP.out,HK1.out.setCell (.inl rfl) _⟩
  rw[HY.out]
  rfl
theorem constant_err(h:Rdr R w A c bs p n)(t:Int)(bits:Nat)(er:Nat×Nat)(hb:(t=1/\bits=32)\/(t=2/\bits=64))(hr:rdSig bits (bs.drop p) p=.error er):
  Calls prog 285 #[.pointer (some ⟨R,0,none⟩),.int .i64 t] w λe w'=>∃v,e=.returned (.tuple #[.int .u64 0,v])/\SpotIs w' v er.2 er.1/\Kx (Only R) w w':=by
 have hS:Leb.sOf bs p bits=none/\er=(2,p):=by
  rw[Leb.sOf_drop]
  unfold rdSig at hr
  split at hr
  ·
   rename_i hu
   injection hr with hr
   rw[hu]
   exact⟨rfl,hr.symm⟩
  ·cases hr
 obtain⟨hS,rfl⟩:=hS
 have HRr:=hid h
 have c0:=h.c0
 have c1:=h.c1
 have HC:Hid (∀b:Int,b=bits->Calls prog 294 #[.slice A bs.length c,.int .i64 p,.int .i64 b] w.drew λe w'=>e=.returned (sV none)/\w.drew=w'):=hid λb hbb=>by
  subst hbb
  refine S_int (w:=w.drew) (at_:=p) (bits:=bits) none h.w1.sl' (zq _) rfl h.hc h.hm ?_ ?_ (by omega) (by have:=h.hp;omega) (by simpa using hS)
  ·rcases hb with⟨-,rfl⟩|⟨-,rfl⟩<;>decide
  ·rcases hb with⟨-,rfl⟩|⟨-,rfl⟩<;>decide
 unfold sV at HC
 clear h hS hr
 rcases hb with⟨rfl,rfl⟩|⟨rfl,rfl⟩
 all_goals
  go_enter func285,ntmps285
  go_wp2_with fail
  refine wp_region_held_drew (S:=λw'=>w'.cell? ⟨R,0,none⟩=some (.slice A bs.length c)/\w'.cell? ⟨R,1,none⟩=some (.int .i64 p)) (by kernel_rfl) ⟨c0,c1⟩ (λhHeld=>?_)
  refine rtk 0 13 ?_
  refine rtk 1 14 ?_
  refine rtk 2 15 ?_
  refine rtk 3 16 ?_
  refine rtk 4 17 ?_
  refine rtk 5 18 ?_
  refine rtk 6 19 ?_
  refine rtk 7 20 ?_
  refine rtk 8 21 ?_
  refine rcl 9 λK hK=>?_
  go_simp
  refine(HC.out _ rfl).mono ?_
  rintro e w1 ⟨rfl,hw1⟩
  have HR1:Hid (Rdr R w1 A c bs p n):=hid (by rw[<-hw1];exact HRr.out.w1)
  have HK1:Hid (Kx (Only R) w w1):=hid (by rw[<-hw1];exact Kx.w1)
  have d0:=HR1.out.c0
  have d1:=HR1.out.c1
  clear hw1 hHeld c0 c1
  go_wp2_with fail
  refine rbk hK ⟨d0,d1⟩ λhHeld=>?_;clear hK K
  refine rtk 10 12 ?_
  refine rtk 11 23 ?_
  refine rtk 12 24 ?_
  refine rtk 13 25 ?_
  refine rtk 14 7 ?_
  refine rtk 15 8 ?_
  refine rtk 16 9 ?_
  refine wpAnyH_done (by kernel_rfl) ?_ _
  clear hHeld
  go_wp2_with(first|(go_at_call 279;(with_reducible refine(fault_any _ HR1.out).mono ?_);rintro e w2 ⟨v,rfl,hs,hb⟩;have HSp:=hid hs;have HB:=hid hb;clear hs hb))
  go_ret2
  exact⟨_,rfl,HSp.out,HK1.out.trans (.of_below HB.out)⟩
theorem zero_ok(h:Rdr R w A c bs p n)(u:Unit)(l':List UInt8)(p':Nat)(hr:rdMust 0 (bs.drop p) p=.ok (u,l',p')):
  Calls prog 283 #[.pointer (some ⟨R,0,none⟩)] w λe w'=>e=.returned .nilIface/\Rdr R w' A c bs p' n/\Kx (Only R) w w':=by
 obtain⟨-,-,hp'⟩:=Adv.dropped (must_got hr) h.hp
 have hb:bs[p]? =some 0/\p'=p+1:=by
  cases hg:bs[p]? with
  |none=>rw[(at_end hg h.hp).2]at hr;cases hr
  |some b=>
   rw[drop_at hg,must_cons]at hr
   split at hr
   ·
    rename_i e
    injection hr with hr
    simp only[Prod.mk.injEq]at hr
    exact⟨by rw[e],hr.2.2.symm⟩
   ·cases hr
 obtain⟨hb,rfl⟩:=hb
 have HPk:=hid (peek_ok h 0 hb)
 have HRr:=hid h
 have HP:=hid hp'
 have hpm:(p:Int)<=9223372036854775806:=by have:=h.hc;have:=h.hm;unfold maxLen at this;omega
 clear h hb hr hp'
 go_enter func283,ntmps283
 go_wp2_with(first|(go_at_call 269;(with_reducible refine HPk.out.mono ?_);rintro e w1 ⟨rfl,nq,hw1⟩;have HR1:Hid (Rdr R w1 A c bs p n):=hid (by rw[hw1];exact HRr.out.drewN nq);have HK1:Hid (Kx (Only R) w w1):=hid (by rw[hw1];exact Kx.refl_.drewN nq);have d0:=HR1.out.c0;have d1:=HR1.out.c1;have df:=HR1.out.fr 1;have hlt1:=HR1.out.lt;clear hw1))
 go_ret
 exact⟨rfl,HR1.out.setAt HP.out,HK1.out.setCell (.inl rfl) _⟩
theorem zero_err(h:Rdr R w A c bs p n)(er:Nat×Nat)(hr:rdMust 0 (bs.drop p) p=.error er):
  Calls prog 283 #[.pointer (some ⟨R,0,none⟩)] w λe w'=>∃v,e=.returned v/\SpotIs w' v er.2 er.1/\Kx (Only R) w w':=by
 have HRr:=hid h
 cases hg:bs[p]? with
 |none=>
  obtain⟨rfl,hd⟩:=at_end hg h.hp
  rw[hd]at hr
  injection hr with hr
  subst hr
  have HPk:=hid (peek_end h)
  clear h hd hg
  go_enter func283,ntmps283
  go_wp2_with(first|(go_at_call 269;(with_reducible refine HPk.out.mono ?_);rintro e w1 ⟨v,rfl,⟨sb,so,rfl,hs1,hs2⟩,hb⟩;have HB:=hid hb;have HS1:=hid hs1;have HS2:=hid hs2;clear hb hs1 hs2))
  go_ret
  exact⟨_,rfl,⟨sb,so,rfl,HS1.out,HS2.out⟩,.of_below HB.out⟩
 |some b=>
  rw[drop_at hg,must_cons]at hr
  split at hr
  ·cases hr
  rename_i hne
  injection hr with hr
  subst hr
  have HPk:=hid (peek_ok h b hg)
  have tb:((b.toNat:Int) != 0)=true:=by
   have:b.toNat≠0:=λe=>hne (UInt8.toNat_inj.1 (by rw[e];rfl))
   simp;omega
  obtain⟨x,hx⟩:∃x:Int,x=b.toNat:=⟨_,rfl⟩
  rw[<-hx]at HPk tb
  clear h hg hne hx
  go_enter func283,ntmps283
  go_wp2_with(first
   |(go_at_call 269;(with_reducible refine HPk.out.mono ?_);rintro e w1 ⟨rfl,nq,hw1⟩;have HR1:Hid (Rdr R w1 A c bs p n):=hid (by rw[hw1];exact HRr.out.drewN nq);have HK1:Hid (Kx (Only R) w w1):=hid (by rw[hw1];exact Kx.refl_.drewN nq);clear hw1)
   |(go_at_call 279;(with_reducible refine(fault_any _ HR1.out).mono ?_);rintro e w2 ⟨v,rfl,hs,hb⟩;have HSp:=hid hs;have HB:=hid hb;clear hs hb))
  go_ret
  exact⟨_,rfl,HSp.out,HK1.out.trans (.of_below HB.out)⟩
end
section
variable{R:Nat}{w:World}{A:Option Addr}{c:Nat}{bs:List UInt8}{p n:Nat}
theorem result_ok(h:Rdr R w A c bs p n)(t:Int)(l':List UInt8)(p':Nat)(hr:rdKind (bs.drop p) p=.ok (t,l',p')):
  Calls prog 293 #[.pointer (some ⟨R,0,none⟩)] w λe w'=>e=.returned (.tuple #[.int .i64 t,.nilIface])/\Rdr R w' A c bs p' n/\Kx (Only R) w w':=by
 obtain⟨-,-,hp'⟩:=Adv.dropped (kind_got hr).2 h.hp
 have hb:p'=p+1/\((bs[p]? =some 64/\t=0)\/(bs[p]? =some 127/\t=1)\/(bs[p]? =some 126/\t=2)):=by
  cases hg:bs[p]? with
  |none=>rw[(at_end hg h.hp).2]at hr;cases hr
  |some b=>
   rw[drop_at hg,kind_cons]at hr
   by_cases e1:b=64
   ·
    rw[if_pos e1]at hr
    injection hr with hr
    simp only[Prod.mk.injEq]at hr
    exact⟨hr.2.2.symm,.inl ⟨by rw[e1],hr.1.symm⟩⟩
   rw[if_neg e1]at hr
   by_cases e2:b=127
   ·
    rw[if_pos e2]at hr
    injection hr with hr
    simp only[Prod.mk.injEq]at hr
    exact⟨hr.2.2.symm,.inr (.inl ⟨by rw[e2],hr.1.symm⟩)⟩
   rw[if_neg e2]at hr
   by_cases e3:b=126
   ·
    rw[if_pos e3]at hr
    injection hr with hr
    simp only[Prod.mk.injEq]at hr
    exact⟨hr.2.2.symm,.inr (.inr ⟨by rw[e3],hr.1.symm⟩)⟩
   rw[if_neg e3]at hr
   split at hr<;>cases hr
 obtain⟨rfl,hb⟩:=hb
 have HRr:=hid h
 have HP:=hid hp'
 have hpm:(p:Int)<=9223372036854775806:=by have:=h.hc;have:=h.hm;unfold maxLen at this;omega
 rcases hb with⟨hb,rfl⟩|⟨hb,rfl⟩|⟨hb,rfl⟩
 all_goals
  have HPk:=hid (peek_ok h _ hb)
  clear h hb hr hp'
  go_enter func293,ntmps293
  go_wp2_with(first|(go_at_call 269;(with_reducible refine HPk.out.mono ?_);rintro e w1 ⟨rfl,nq,hw1⟩;have HR1:Hid (Rdr R w1 A c bs p n):=hid (by rw[hw1];exact HRr.out.drewN nq);have HK1:Hid (Kx (Only R) w w1):=hid (by rw[hw1];exact Kx.refl_.drewN nq);have d0:=HR1.out.c0;have d1:=HR1.out.c1;have df:=HR1.out.fr 1;have hlt1:=HR1.out.lt;clear hw1))
  go_ret2
  exact⟨rfl,HR1.out.setAt HP.out,HK1.out.setCell (.inl rfl) _⟩
theorem result_err(h:Rdr R w A c bs p n)(er:Nat×Nat)(hr:rdKind (bs.drop p) p=.error er):
  Calls prog 293 #[.pointer (some ⟨R,0,none⟩)] w λe w'=>∃v,e=.returned (.tuple #[.int .i64 0,v])/\SpotIs w' v er.2 er.1/\Kx (Only R) w w':=by
 have HRr:=hid h
 cases hg:bs[p]? with
 |none=>
  obtain⟨rfl,hd⟩:=at_end hg h.hp
  rw[hd]at hr
  injection hr with hr
  subst hr
  have HPk:=hid (peek_end h)
  clear h hd hg
  go_enter func293,ntmps293
  go_wp2_with(first|(go_at_call 269;(with_reducible refine HPk.out.mono ?_);rintro e w1 ⟨v,rfl,⟨sb,so,rfl,hs1,hs2⟩,hb⟩;have HB:=hid hb;have HS1:=hid hs1;have HS2:=hid hs2;clear hb hs1 hs2))
  go_ret2
  exact⟨_,rfl,⟨sb,so,rfl,HS1.out,HS2.out⟩,.of_below HB.out⟩
 |some b=>
  rw[drop_at hg,kind_cons]at hr
  have HPk:=hid (peek_ok h b hg)
  by_cases e1:b=64
  ·rw[if_pos e1]at hr;cases hr
  rw[if_neg e1]at hr
  by_cases e2:b=127
  ·rw[if_pos e2]at hr;cases hr
  rw[if_neg e2]at hr
  by_cases e3:b=126
  ·rw[if_pos e3]at hr;cases hr
  rw[if_neg e3]at hr
  have t1:=u8_ne (k:=64) e1 rfl
  have t2:=u8_ne (k:=127) e2 rfl
  have t3:=u8_ne (k:=126) e3 rfl
  have hcs:(b=125/\er=(3,p))\/(b=124/\er=(3,p))\/(b≠125/\b≠124/\er=(2,p)):=by
   by_cases e4:b=125
   ·rw[if_pos (Or.inl e4)]at hr;injection hr with hr;exact .inl ⟨e4,hr.symm⟩
   by_cases e5:b=124
   ·rw[if_pos (Or.inr e5)]at hr;injection hr with hr;exact .inr (.inl ⟨e5,hr.symm⟩)
   rw[if_neg (by simp[e4,e5])]at hr
   injection hr with hr
   exact .inr (.inr ⟨e4,e5,hr.symm⟩)
  clear h hg hr e1 e2 e3
  rcases hcs with⟨rfl,rfl⟩|⟨rfl,rfl⟩|⟨e4,e5,rfl⟩
  ·
   clear t1 t2 t3
   go_enter func293,ntmps293
   go_wp2_with(first
    |(go_at_call 269;(with_reducible refine HPk.out.mono ?_);rintro e w1 ⟨rfl,nq,hw1⟩;have HR1:Hid (Rdr R w1 A c bs p n):=hid (by rw[hw1];exact HRr.out.drewN nq);have HK1:Hid (Kx (Only R) w w1):=hid (by rw[hw1];exact Kx.refl_.drewN nq);clear hw1)
    |(go_at_call 279;(with_reducible refine(fault_any _ HR1.out).mono ?_);rintro e w2 ⟨v,rfl,hs,hb⟩;have HSp:=hid hs;have HB:=hid hb;clear hs hb))
   go_ret2
   exact⟨_,rfl,HSp.out,HK1.out.trans (.of_below HB.out)⟩
  ·
   clear t1 t2 t3
   go_enter func293,ntmps293
   go_wp2_with(first
    |(go_at_call 269;(with_reducible refine HPk.out.mono ?_);rintro e w1 ⟨rfl,nq,hw1⟩;have HR1:Hid (Rdr R w1 A c bs p n):=hid (by rw[hw1];exact HRr.out.drewN nq);have HK1:Hid (Kx (Only R) w w1):=hid (by rw[hw1];exact Kx.refl_.drewN nq);clear hw1)
    |(go_at_call 279;(with_reducible refine(fault_any _ HR1.out).mono ?_);rintro e w2 ⟨v,rfl,hs,hb⟩;have HSp:=hid hs;have HB:=hid hb;clear hs hb))
   go_ret2
   exact⟨_,rfl,HSp.out,HK1.out.trans (.of_below HB.out)⟩
  ·
   have t4:=u8_ne (k:=125) e4 rfl
   have t5:=u8_ne (k:=124) e5 rfl
   obtain⟨x,hx⟩:∃x:Int,x=b.toNat:=⟨_,rfl⟩
   rw[<-hx]at HPk t1 t2 t3 t4 t5
   clear hx e4 e5
   go_enter func293,ntmps293
   go_wp2_with(first
    |(go_at_call 269;(with_reducible refine HPk.out.mono ?_);rintro e w1 ⟨rfl,nq,hw1⟩;have HR1:Hid (Rdr R w1 A c bs p n):=hid (by rw[hw1];exact HRr.out.drewN nq);have HK1:Hid (Kx (Only R) w w1):=hid (by rw[hw1];exact Kx.refl_.drewN nq);clear hw1)
    |(go_at_call 279;(with_reducible refine(fault_any _ HR1.out).mono ?_);rintro e w2 ⟨v,rfl,hs,hb⟩;have HSp:=hid hs;have HB:=hid hb;clear hs hb))
   go_ret2
   exact⟨_,rfl,HSp.out,HK1.out.trans (.of_below HB.out)⟩
theorem opChk_cases(depth n:Nat)(b:Int):(Opx.flt b=true/\opChk depth n b=3)\/(Opx.flt b=false/\knd b=0/\opChk depth n b=2)\/(Opx.flt b=false/\knd b≠0/\512<=n/\opChk depth n b=7)\/
  (Opx.flt b=false/\knd b=2/\n<512/\32<=depth/\opChk depth n b=7)\/(Opx.flt b=false/\knd b≠0/\n<512/\(knd b=2->depth<32)/\opChk depth n b=0):=by
 unfold opChk
 cases hf:Opx.flt b with
 |true=>exact .inl ⟨rfl,by simp⟩
 |false=>
  right
  rw[if_neg (by simp)]
  by_cases h0:knd b=0
  ·rw[if_pos h0];exact .inl ⟨rfl,h0,rfl⟩
  rw[if_neg h0]
  by_cases h1:512<=n
  ·rw[if_pos (Or.inl h1)];exact .inr (.inl ⟨rfl,h0,h1,rfl⟩)
  by_cases h2:knd b=2/\32<=depth
  ·rw[if_pos (Or.inr h2)];exact .inr (.inr (.inl ⟨rfl,h2.1,by omega,h2.2,rfl⟩))
  ·rw[if_neg (by omega)];exact .inr (.inr (.inr ⟨rfl,h0,by omega,by omega,rfl⟩))
theorem knd_noneE{b:Int}(h:knd b=0):Opx.nm b=[]\/Opx.kd b=0:=by
 unfold knd at h
 split at h
 ·rename_i h1;exact .inl (List.isEmpty_iff.1 h1)
 ·exact .inr h
theorem kd_pos(b:Int):Opx.kd b≠0:=by
 unfold Opx.kd
 repeat' split
 all_goals omega
end
end Go.Proofs.YteoijlfipmaoeaaGreatDoor
