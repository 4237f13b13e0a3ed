import Derived.Test.YteoijlfipmaoeaaGreatDoorPJ11
set_option linter.unusedVariables false
set_option linter.unusedSimpArgs false
set_option maxRecDepth 100000
set_option maxHeartbeats 16000000
namespace Go.Proofs.YteoijlfipmaoeaaGreatDoor
open Lib (hid)
open Go.RowKit Trx
open Go.Proofs.Tryz
theorem map_take_ext{α β:Type}(k:α->β){l m:List α}{j:Nat}{x y:α}(hx:l[j]? =some x)(hy:m[j]? =some y)(h:k x≠k y):l.map k≠m.map k:=λe=>by
 have h1:(l.map k)[j]? =some (k x):=by rw[zr,hx];rfl
 have h2:(m.map k)[j]? =some (k y):=by rw[zr,hy];rfl
 rw[e,h2]at h1
 exact h (Option.some.inj h1).symm
theorem map_take_snoc{α β:Type}(k:α->β){l m:List α}{j:Nat}{x y:α}(hx:l[j]? =some x)(hy:m[j]? =some y)(h:k x=k y)(he:(l.take j).map k=(m.take j).map k):(l.take (j+1)).map k=(m.take (j+1)).map k:=by
 rw[qs,qs,hx,hy,qd,qd,he]
 simp[h]
def kTy(x:Ty):List Int×List Int:=(x.p.zs,x.r.zs)
theorem kTy_iff(x y:Ty):eqTy x y↔kTy x=kTy y:=by simp[eqTy,kTy]
def kFn(x:Fn):Int×List Int×Fo:=(x.ty,x.lo.zs,x.bo.f)
theorem kFn_iff(x y:Fn):eqFn x y↔kFn x=kFn y:=by simp[eqFn,kFn]
def kGl(x:Gl):Int×Bool×Nd:=(x.ty,x.mu,x.i.n)
theorem kGl_iff(x y:Gl):eqGl x y↔kGl x=kGl y:=by simp[eqGl,kGl]
def kEl(x:El):Nd×List Int:=(x.i.n,x.fs.zs)
theorem kEl_iff(x y:El):eqEl x y↔kEl x=kEl y:=by simp[eqEl,kEl]
def kDa(x:Da):Nd×List UInt8:=(x.i.n,x.bs.bs)
theorem kDa_iff(x y:Da):eqDa x y↔kDa x=kDa y:=by simp[eqDa,kDa]
def kCu(x:Cu):ByteArray×List UInt8:=(x.nm,x.bs.bs)
theorem kCu_iff(x y:Cu):eqCu x y↔kCu x=kCu y:=by simp[eqCu,kCu]
inductive EIn:{β:Type}->Nat->Nat->Nat->Nat->(β->List Value)->Prop
 |Ty:EIn 36 37 2 48 Ty.cells
 |Fn:EIn 39 40 3 56 Fn.cells
 |Gl:EIn 42 43 11 136 Gl.cells
 |El:EIn 45 46 10 144 El.cells
 |Da:EIn 47 48 10 144 Da.cells
 |Cu:EIn 49 50 2 40 Cu.cells
theorem EIn.len{β:Type}{f kf k y:Nat}{cells:β->List Value}(h:EIn f kf k y cells)(x:β):(cells x).length=k:=by cases h<;>rfl
theorem eqL_any{β κ:Type}{f kf k y:Nat}{cells:β->List Value}(hI:EIn f kf k y cells){q:World->Nat->β->Prop}(key:β->κ)(E:β->β->Prop)(hE:∀x y,E x y↔key x=key y)(s t:SL β)(w:World)(hs:s.ok cells q k y w w.heap.size)(ht:t.ok cells q k y w w.heap.size)
  (H:∀x y w',Below w.heap.size w w'->q w w.heap.size x->q w w.heap.size y->Calls prog kf #[.agg (cells x).toArray,.agg (cells y).toArray] w' (Tells (E x y) w')):
  Calls prog f #[.slice s.A s.l.length s.c,.slice t.A t.l.length t.c,.func (.func kf) #[] #[]] w (Tells (s.l.map key=t.l.map key) w):=by
 have hm1:=zy hs.le hs.c
 have hm2:=zy ht.le ht.c
 unfold maxLen at hm1 hm2
 have H1:=hid hs
 have H2:=hid ht
 have HH:=hid H
 have HLn:=hid hI.len
 clear hs ht H
 by_cases hl:s.l.length=t.l.length
 ·
  rw[<-hl]
  have tl:((s.l.length:Int) != (s.l.length:Int))=false:=by simp
  have HL:=hid hl
  clear hl
  cases hI
  all_goals
   first|go_enter func36,ntmps36|go_enter func39,ntmps39|go_enter func42,ntmps42|go_enter func45,ntmps45|go_enter func47,ntmps47|go_enter func49,ntmps49
   go_wp2_with fail
   go_loopw [17] (λi wr=>∃j:Nat,j<=s.l.length/\i=.int .i64 j/\(s.l.take j).map key=(t.l.take j).map key/\Below w.heap.size w wr) (λi _=>s.l.length-(intOf i).toNat)
   case atStart=>exact⟨0,by omega,rfl,by simp,zx _ _⟩
   case round=>
    obtain⟨j,hj,rfl,heq,hbel⟩:=hrel
    have HE:=hid heq
    clear heq
    by_cases hlt:j<s.l.length
    ·
     obtain⟨b,o,x,hA,hx,hb,hokx,hcx⟩:=H1.out.at_ hlt
     obtain⟨d,u,y,hD,hy,hd,hoky,hcy⟩:=H2.out.at_ (show j<t.l.length by have:=HL.out;omega)
     have r:=row_of hbel hb hcx (HLn.out x)
     have r':=row_of hbel hd hcy (HLn.out y)
     have hc:=λw' (h:Below w.heap.size w w')=>HH.out x y w' h hokx hoky
     have hbr:=zj hb hbel.size
     have hdr:=zj hd hbel.size
     simp only[allC,Ty.cells,Fn.cells,Gl.cells,El.cells,Da.cells,Cu.cells,In.cells,insC,zi,qx,qz,Nat.reduceAdd,qe,and_true]at r r' hc
     have HC:=hid hc
     have HNE:=hid (map_take_ext key hx hy)
     have HSN:=hid (λh=>map_take_snoc key hx hy h HE.out)
     have HK:=hid (hE x y)
     have HB:=hid hbel
     have hsz:=hbel.size
     rw[hA,hD]
     clear hbel hcx hcy hx hy hokx hoky hA hD HH hc
     repeat(obtain⟨q0,r⟩:=r)
     repeat(obtain⟨q0,r'⟩:=r')
     go_wp2_with((with_reducible refine(HC.out _ ((HB.out.alloc hsz _).alloc (by simp;omega) _)).mono ?_);rintro e w1 ⟨⟨b1,rfl,hb1⟩,hbel⟩;have HP:=hid hb1;have HB1:=hid ((((HB.out.alloc hsz _).alloc (by simp;omega) _)).trans (hbel.mono (by simp;omega)));clear hbel hb1)
     all_goals first
      |(rename_i hq;go_ret;exact Tells.mk_ _ (by simp;exact HNE.out λe=>absurd (HP.out.2 (HK.out.2 e)) (by simpa using hq)) HB1.out)
      |skip
     rename_i hq
     go_roundw
     case rel=>exact⟨j+1,by omega,by go_num,HSN.out (HK.out.1 (HP.out.1 (by simpa using hq))),HB1.out⟩
     case measure=>simp[intOf];omega
    ·
     have h1:=zo (l:=s.l) (i:=j) (by omega)
     have h2:=zo (l:=t.l) (i:=j) (by have:=HL.out;omega)
     have HF:=hid (show s.l.map key=t.l.map key by have:=HE.out;rwa[h1,h2]at this)
     have HB:=hid hbel
     clear h1 h2 hbel
     go_wp2_with fail
     go_ret
     exact Tells.mk_ _ (by simpa using HF.out) HB.out
 ·
  have tl:((s.l.length:Int) != (t.l.length:Int))=true:=by simp;omega
  have hne:s.l.map key≠t.l.map key:=λe=>hl (by have:=congrArg List.length e;simpa using this)
  have HNE:=hid hne
  clear hne
  cases hI
  all_goals
   first|go_enter func36,ntmps36|go_enter func39,ntmps39|go_enter func42,ntmps42|go_enter func45,ntmps45|go_enter func47,ntmps47|go_enter func49,ntmps49
   go_wp2_with fail
   go_ret
   exact Tells.mk_ _ (by simpa using HNE.out) (zx _ _)
abbrev eqLTy_any(s t:SL Ty)(w:World)(hs:s.ok Ty.cells Ty.ok 2 48 w w.heap.size)(ht:t.ok Ty.cells Ty.ok 2 48 w w.heap.size):=eqL_any .Ty kTy eqTy kTy_iff s t w hs ht λx y w' hb hx hy=>sameType_any x y w' (hx.keep hb.size (Below.kp hb)) (hy.keep hb.size (Below.kp hb))
abbrev eqLFn_any(s t:SL Fn)(w:World)(hs:s.ok Fn.cells Fn.ok 3 56 w w.heap.size)(ht:t.ok Fn.cells Fn.ok 3 56 w w.heap.size):=eqL_any .Fn kFn eqFn kFn_iff s t w hs ht λx y w' hb hx hy=>sameFunc_any x y w' (hx.keep hb.size (Below.kp hb)) (hy.keep hb.size (Below.kp hb))
abbrev eqLGl_any(s t:SL Gl)(w:World)(hs:s.ok Gl.cells Gl.ok 11 136 w w.heap.size)(ht:t.ok Gl.cells Gl.ok 11 136 w w.heap.size):=eqL_any .Gl kGl eqGl kGl_iff s t w hs ht λx y w' hb hx hy=>sameGlobal_any x y w' (hx.keep hb.size (Below.kp hb)) (hy.keep hb.size (Below.kp hb))
abbrev eqLEl_any(s t:SL El)(w:World)(hs:s.ok El.cells El.ok 10 144 w w.heap.size)(ht:t.ok El.cells El.ok 10 144 w w.heap.size):=eqL_any .El kEl eqEl kEl_iff s t w hs ht λx y w' hb hx hy=>sameElem_any x y w' (hx.keep hb.size (Below.kp hb)) (hy.keep hb.size (Below.kp hb))
abbrev eqLDa_any(s t:SL Da)(w:World)(hs:s.ok Da.cells Da.ok 10 144 w w.heap.size)(ht:t.ok Da.cells Da.ok 10 144 w w.heap.size):=eqL_any .Da kDa eqDa kDa_iff s t w hs ht λx y w' hb hx hy=>sameData_any x y w' (hx.keep hb.size (Below.kp hb)) (hy.keep hb.size (Below.kp hb))
abbrev eqLCu_any(s t:SL Cu)(w:World)(hs:s.ok Cu.cells Cu.ok 2 40 w w.heap.size)(ht:t.ok Cu.cells Cu.ok 2 40 w w.heap.size):=eqL_any .Cu kCu eqCu kCu_iff s t w hs ht λx y w' hb hx hy=>sameCustom_any x y w' (hx.keep hb.size (Below.kp hb)) (hy.keep hb.size (Below.kp hb))
theorem bytes_inj{a b:ByteArray}(h:a.toList=b.toList):a=b:=by
 rw[ByteArray.toList_eq,ByteArray.toList_eq]at h
 exact ByteArray.ext (Array.toList_inj.1 h)
theorem lm_inj{x y:Lm}(h0:x.mn=y.mn)(h1:x.mx=y.mx)(h2:x.hs=y.hs):x=y:=by cases x;cases y;simp_all
theorem ex_inj{x y:Ex}(h0:x.nm=y.nm)(h1:x.kd=y.kd)(h2:x.ix=y.ix):x=y:=by cases x;cases y;simp_all
theorem im_inj{x y:Im}(h0:x.md=y.md)(h1:x.nm=y.nm)(h2:x.kd=y.kd)(h3:x.ty=y.ty)(h4:x.mu=y.mu)(h5:x.lm=y.lm):x=y:=by cases x;cases y;simp_all
theorem eqLm_at(d:Nat)(a0 b0:Int)(a1 b1:Int)(a2 b2:Bool)(w:World):(Op.equalIn (d+2) 75 (.agg #[.int .i64 a0,.int .i64 a1,.bool a2]) (.agg #[.int .i64 b0,.int .i64 b1,.bool b2])).run prog w=.ok (a0==b0&&a1==b1&&a2==b2) w:=by
 have uint:=underlying3
 have aint_:=Tryz.isAgg3
 have zint:=Tryz.sizeOf3
 have ubool:=underlying4
 have abool_:=Tryz.isAgg4
 have zbool:=Tryz.sizeOf4
 have hS:prog.underlying 75=some (.struct (prog.fieldsOf 75)):=by kernel_rfl
 have hp:prog.stoodInHeld 75=false:=by kernel_rfl
 rw[run_equalIn_agg w (d+1) 75 _ _ hS hp]
 simp only[Program.fieldsOf,underlying75]
 go_simp
 by_cases h0:a0=b0<;>by_cases h1:a1=b1<;>by_cases h2:a2=b2<;>simp[h0,h1,h2]
@[go_sem high] theorem eqLm_9999(a0 b0:Int)(a1 b1:Int)(a2 b2:Bool)(w:World):(Op.equalIn 9999 75 (.agg #[.int .i64 a0,.int .i64 a1,.bool a2]) (.agg #[.int .i64 b0,.int .i64 b1,.bool b2])).run prog w=.ok (a0==b0&&a1==b1&&a2==b2) w:=eqLm_at 9997 a0 b0 a1 b1 a2 b2 w
@[go_sem high] theorem eqLm_10000(a0 b0:Int)(a1 b1:Int)(a2 b2:Bool)(w:World):(Op.equalIn 10000 75 (.agg #[.int .i64 a0,.int .i64 a1,.bool a2]) (.agg #[.int .i64 b0,.int .i64 b1,.bool b2])).run prog w=.ok (a0==b0&&a1==b1&&a2==b2) w:=eqLm_at 9998 a0 b0 a1 b1 a2 b2 w
theorem eqLLm_any(s t:SL Lm)(w:World)(hs:s.ok Lm.cells (λ_ _=>Lm.ok) 3 24 w w.heap.size)(ht:t.ok Lm.cells (λ_ _=>Lm.ok) 3 24 w w.heap.size):
  Calls prog 41 #[.slice s.A s.l.length s.c,.slice t.A t.l.length t.c] w (Tells (s.l=t.l) w):=by
 have hm1:=zy hs.le hs.c
 have hm2:=zy ht.le ht.c
 unfold maxLen at hm1 hm2
 have H1:=hid hs
 have H2:=hid ht
 clear hs ht
 by_cases hl:s.l.length=t.l.length
 ·
  rw[<-hl]
  have tl:((s.l.length:Int) != (s.l.length:Int))=false:=by simp
  have HL:=hid hl
  clear hl
  go_enter func41,ntmps41
  go_wp2_with fail
  go_loopw [13] (λi wr=>∃(j n:Nat),j<=s.l.length/\i=.int .i64 j/\wr=w.drewN n/\s.l.take j=t.l.take j) (λi _=>s.l.length-(intOf i).toNat)
  case atStart=>exact⟨0,0,by omega,rfl,rfl,by simp⟩
  case round=>
   obtain⟨j,n,hj,rfl,rfl,heq⟩:=hrel
   have HE:=hid heq
   clear heq
   by_cases hlt:j<s.l.length
   ·
    have hlt2:j<t.l.length:=by have:=HL.out;omega
    obtain⟨b,o,x,hA,hx,hb,hokx,hcx⟩:=H1.out.at_ hlt
    obtain⟨d,u,y,hD,hy,hd,hoky,hcy⟩:=H2.out.at_ hlt2
    have q0:(w.drewN n).cell? ⟨b,o+j * 3,none⟩=some (.int .i64 x.mn):=hcx 0 (by omega)
    have q1:(w.drewN n).cell? ⟨b,o+j * 3+1,none⟩=some (.int .i64 x.mx):=hcx 1 (by omega)
    have q2:(w.drewN n).cell? ⟨b,o+j * 3+2,none⟩=some (.bool x.hs):=hcx 2 (by omega)
    have r0:(w.drewN n).cell? ⟨d,u+j * 3,none⟩=some (.int .i64 y.mn):=hcy 0 (by omega)
    have r1:(w.drewN n).cell? ⟨d,u+j * 3+1,none⟩=some (.int .i64 y.mx):=hcy 1 (by omega)
    have r2:(w.drewN n).cell? ⟨d,u+j * 3+2,none⟩=some (.bool y.hs):=hcy 2 (by omega)
    have hs1:s.l.take (j+1)=s.l.take j++[x]:=by rw[qs,hx];rfl
    have hs2:t.l.take (j+1)=t.l.take j++[y]:=by rw[qs,hy];rfl
    have hne:x≠y->s.l≠t.l:=λh e=>by rw[e,hy]at hx;exact h (Option.some.inj hx).symm
    obtain⟨w0,hw0⟩:∃w0,w0=w.drewN n:=⟨_,rfl⟩
    have hb1':b<w0.heap.size:=by rw[hw0];exact hb
    have hb2':d<w0.heap.size:=by rw[hw0];exact hd
    rw[<-hw0]at q0 r0 q1 r1 q2 r2⊢
    rw[hA,hD]
    have HW:=hid hw0
    have HS1:=hid hs1
    have HS2:=hid hs2
    have HNE:=hid hne
    clear hcx hcy hx hy hokx hoky hA hD hw0 hs1 hs2 hne hb hd
    by_cases hxy:x=y
    ·
     subst hxy
     go_wp2_with fail
     go_quiet (fail)
     go_wp2_with fail
     go_roundw
     case rel=>exact⟨j+1,n+nq,by omega,by go_num,by rw[HW.out,jl],by rw[HS1.out,HS2.out,HE.out]⟩
     case measure=>simp[intOf];omega
    ·
     have tz:(x.mn==y.mn&&x.mx==y.mx&&x.hs==y.hs)=false:=by
      rw[Bool.eq_false_iff];intro e;apply hxy
      simp only[zp,beq_iff_eq]at e
      exact lm_inj e.1.1 e.1.2 e.2
     have HUV:=hid hxy
     clear hxy
     go_wp2_with fail
     go_quiet (fail)
     go_wp2_with fail
     go_ret
     refine Tells.mk_ _ (by simp;exact HNE.out HUV.out) ?_
     rw[HW.out,jl];exact bel_drewN _ _
   ·
    have h1:=zo (l:=s.l) (i:=j) (by omega)
    have h2:=zo (l:=t.l) (i:=j) (by have:=HL.out;omega)
    have HF:=hid (show s.l=t.l by rw[<-h1,<-h2];exact HE.out)
    clear h1 h2
    go_wp2_with fail
    go_ret
    exact Tells.mk_ _ (by simp;exact HF.out) (bel_drewN _ _)
 ·
  have tl:((s.l.length:Int) != (t.l.length:Int))=true:=by simp;omega
  have hne:s.l≠t.l:=λe=>hl (by rw[e])
  have HNE:=hid hne
  clear hne
  go_enter func41,ntmps41
  go_wp2_with fail
  go_ret
  exact Tells.mk_ _ (by simp;exact HNE.out) (zx _ _)
@[go_sem high] theorem eqEx_at(a0 b0:ByteArray)(a1 b1:Int)(a2 b2:Int)(w:World):(Op.equalIn 10000 79 (.agg #[.string a0,.int .i64 a1,.int .i64 a2]) (.agg #[.string b0,.int .i64 b1,.int .i64 b2])).run prog w=.ok (a0.toList==b0.toList&&a1==b1&&a2==b2) w:=by
 have uint:=underlying3
 have aint_:=Tryz.isAgg3
 have zint:=Tryz.sizeOf3
 have ustring:=underlying9
 have astring_:=Tryz.isAgg9
 have zstring:=Tryz.sizeOf9
 have hS:prog.underlying 79=some (.struct (prog.fieldsOf 79)):=by kernel_rfl
 have hp:prog.stoodInHeld 79=false:=by kernel_rfl
 rw[show(10000:Nat)=9999+1 from rfl,run_equalIn_agg w 9999 79 _ _ hS hp]
 simp only[Program.fieldsOf,underlying79]
 go_simp
 by_cases h0:a0.toList=b0.toList<;>by_cases h1:a1=b1<;>by_cases h2:a2=b2<;>simp[h0,h1,h2]
theorem eqLEx_any(s t:SL Ex)(w:World)(hs:s.ok Ex.cells (λ_ _=>Ex.ok) 3 32 w w.heap.size)(ht:t.ok Ex.cells (λ_ _=>Ex.ok) 3 32 w w.heap.size):
  Calls prog 44 #[.slice s.A s.l.length s.c,.slice t.A t.l.length t.c] w (Tells (s.l=t.l) w):=by
 have hm1:=zy hs.le hs.c
 have hm2:=zy ht.le ht.c
 unfold maxLen at hm1 hm2
 have H1:=hid hs
 have H2:=hid ht
 clear hs ht
 by_cases hl:s.l.length=t.l.length
 ·
  rw[<-hl]
  have tl:((s.l.length:Int) != (s.l.length:Int))=false:=by simp
  have HL:=hid hl
  clear hl
  go_enter func44,ntmps44
  go_wp2_with fail
  go_loopw [13] (λi wr=>∃(j n:Nat),j<=s.l.length/\i=.int .i64 j/\wr=w.drewN n/\s.l.take j=t.l.take j) (λi _=>s.l.length-(intOf i).toNat)
  case atStart=>exact⟨0,0,by omega,rfl,rfl,by simp⟩
  case round=>
   obtain⟨j,n,hj,rfl,rfl,heq⟩:=hrel
   have HE:=hid heq
   clear heq
   by_cases hlt:j<s.l.length
   ·
    have hlt2:j<t.l.length:=by have:=HL.out;omega
    obtain⟨b,o,x,hA,hx,hb,hokx,hcx⟩:=H1.out.at_ hlt
    obtain⟨d,u,y,hD,hy,hd,hoky,hcy⟩:=H2.out.at_ hlt2
    have q0:(w.drewN n).cell? ⟨b,o+j * 3,none⟩=some (.string x.nm):=hcx 0 (by omega)
    have q1:(w.drewN n).cell? ⟨b,o+j * 3+1,none⟩=some (.int .i64 x.kd):=hcx 1 (by omega)
    have q2:(w.drewN n).cell? ⟨b,o+j * 3+2,none⟩=some (.int .i64 x.ix):=hcx 2 (by omega)
    have r0:(w.drewN n).cell? ⟨d,u+j * 3,none⟩=some (.string y.nm):=hcy 0 (by omega)
    have r1:(w.drewN n).cell? ⟨d,u+j * 3+1,none⟩=some (.int .i64 y.kd):=hcy 1 (by omega)
    have r2:(w.drewN n).cell? ⟨d,u+j * 3+2,none⟩=some (.int .i64 y.ix):=hcy 2 (by omega)
    have hs1:s.l.take (j+1)=s.l.take j++[x]:=by rw[qs,hx];rfl
    have hs2:t.l.take (j+1)=t.l.take j++[y]:=by rw[qs,hy];rfl
    have hne:x≠y->s.l≠t.l:=λh e=>by rw[e,hy]at hx;exact h (Option.some.inj hx).symm
    obtain⟨w0,hw0⟩:∃w0,w0=w.drewN n:=⟨_,rfl⟩
    have hb1':b<w0.heap.size:=by rw[hw0];exact hb
    have hb2':d<w0.heap.size:=by rw[hw0];exact hd
    rw[<-hw0]at q0 r0 q1 r1 q2 r2⊢
    rw[hA,hD]
    have HW:=hid hw0
    have HS1:=hid hs1
    have HS2:=hid hs2
    have HNE:=hid hne
    clear hcx hcy hx hy hokx hoky hA hD hw0 hs1 hs2 hne hb hd
    by_cases hxy:x=y
    ·
     subst hxy
     go_wp2_with fail
     go_quiet (fail)
     go_wp2_with fail
     go_roundw
     case rel=>exact⟨j+1,n+nq,by omega,by go_num,by rw[HW.out,jl],by rw[HS1.out,HS2.out,HE.out]⟩
     case measure=>simp[intOf];omega
    ·
     have tz:(x.nm.toList==y.nm.toList&&x.kd==y.kd&&x.ix==y.ix)=false:=by
      rw[Bool.eq_false_iff];intro e;apply hxy
      simp only[zp,beq_iff_eq]at e
      exact ex_inj (bytes_inj e.1.1) e.1.2 e.2
     have HUV:=hid hxy
     clear hxy
     go_wp2_with fail
     go_quiet (fail)
     go_wp2_with fail
     go_ret
     refine Tells.mk_ _ (by simp;exact HNE.out HUV.out) ?_
     rw[HW.out,jl];exact bel_drewN _ _
   ·
    have h1:=zo (l:=s.l) (i:=j) (by omega)
    have h2:=zo (l:=t.l) (i:=j) (by have:=HL.out;omega)
    have HF:=hid (show s.l=t.l by rw[<-h1,<-h2];exact HE.out)
    clear h1 h2
    go_wp2_with fail
    go_ret
    exact Tells.mk_ _ (by simp;exact HF.out) (bel_drewN _ _)
 ·
  have tl:((s.l.length:Int) != (t.l.length:Int))=true:=by simp;omega
  have hne:s.l≠t.l:=λe=>hl (by rw[e])
  have HNE:=hid hne
  clear hne
  go_enter func44,ntmps44
  go_wp2_with fail
  go_ret
  exact Tells.mk_ _ (by simp;exact HNE.out) (zx _ _)
@[go_sem high] theorem eqIm_at(a0 b0:ByteArray)(a1 b1:ByteArray)(a2 b2:Int)(a3 b3:Int)(a4 b4:Bool)(a5 b5:Int)(a6 b6:Int)(a7 b7:Bool)(w:World):(Op.equalIn 10000 77 (.agg #[.string a0,.string a1,.int .i64 a2,.int .i64 a3,.bool a4,.int .i64 a5,.int .i64 a6,.bool a7]) (.agg #[.string b0,.string b1,.int .i64 b2,.int .i64 b3,.bool b4,.int .i64 b5,.int .i64 b6,.bool b7])).run prog w=.ok (a0.toList==b0.toList&&a1.toList==b1.toList&&a2==b2&&a3==b3&&a4==b4&&(a5==b5&&a6==b6&&a7==b7)) w:=by
 have uint:=underlying3
 have aint_:=Tryz.isAgg3
 have zint:=Tryz.sizeOf3
 have ubool:=underlying4
 have abool_:=Tryz.isAgg4
 have zbool:=Tryz.sizeOf4
 have ustring:=underlying9
 have astring_:=Tryz.isAgg9
 have zstring:=Tryz.sizeOf9
 have aL:=Tryz.isAgg75
 have zL:=Tryz.sizeOf75
 have hS:prog.underlying 77=some (.struct (prog.fieldsOf 77)):=by kernel_rfl
 have hp:prog.stoodInHeld 77=false:=by kernel_rfl
 rw[show(10000:Nat)=9999+1 from rfl,run_equalIn_agg w 9999 77 _ _ hS hp]
 simp only[Program.fieldsOf,underlying77]
 go_simp
 by_cases h0:a0.toList=b0.toList<;>by_cases h1:a1.toList=b1.toList<;>by_cases h2:a2=b2<;>by_cases h3:a3=b3<;>by_cases h4:a4=b4<;>simp[h0,h1,h2,h3,h4]
 by_cases h5:a5=b5<;>by_cases h6:a6=b6<;>by_cases h7:a7=b7<;>simp[h5,h6,h7]
theorem eqLIm_any(s t:SL Im)(w:World)(hs:s.ok Im.cells (λ_ _=>Im.ok) 8 80 w w.heap.size)(ht:t.ok Im.cells (λ_ _=>Im.ok) 8 80 w w.heap.size):
  Calls prog 38 #[.slice s.A s.l.length s.c,.slice t.A t.l.length t.c] w (Tells (s.l=t.l) w):=by
 have hm1:=zy hs.le hs.c
 have hm2:=zy ht.le ht.c
 unfold maxLen at hm1 hm2
 have H1:=hid hs
 have H2:=hid ht
 clear hs ht
 by_cases hl:s.l.length=t.l.length
 ·
  rw[<-hl]
  have tl:((s.l.length:Int) != (s.l.length:Int))=false:=by simp
  have HL:=hid hl
  clear hl
  go_enter func38,ntmps38
  go_wp2_with fail
  go_loopw [13] (λi wr=>∃(j n:Nat),j<=s.l.length/\i=.int .i64 j/\wr=w.drewN n/\s.l.take j=t.l.take j) (λi _=>s.l.length-(intOf i).toNat)
  case atStart=>exact⟨0,0,by omega,rfl,rfl,by simp⟩
  case round=>
   obtain⟨j,n,hj,rfl,rfl,heq⟩:=hrel
   have HE:=hid heq
   clear heq
   by_cases hlt:j<s.l.length
   ·
    have hlt2:j<t.l.length:=by have:=HL.out;omega
    obtain⟨b,o,x,hA,hx,hb,hokx,hcx⟩:=H1.out.at_ hlt
    obtain⟨d,u,y,hD,hy,hd,hoky,hcy⟩:=H2.out.at_ hlt2
    have q0:(w.drewN n).cell? ⟨b,o+j * 8,none⟩=some (.string x.md):=hcx 0 (by omega)
    have q1:(w.drewN n).cell? ⟨b,o+j * 8+1,none⟩=some (.string x.nm):=hcx 1 (by omega)
    have q2:(w.drewN n).cell? ⟨b,o+j * 8+2,none⟩=some (.int .i64 x.kd):=hcx 2 (by omega)
    have q3:(w.drewN n).cell? ⟨b,o+j * 8+3,none⟩=some (.int .i64 x.ty):=hcx 3 (by omega)
    have q4:(w.drewN n).cell? ⟨b,o+j * 8+4,none⟩=some (.bool x.mu):=hcx 4 (by omega)
    have q5:(w.drewN n).cell? ⟨b,o+j * 8+5,none⟩=some (.int .i64 x.lm.mn):=hcx 5 (by omega)
    have q6:(w.drewN n).cell? ⟨b,o+j * 8+6,none⟩=some (.int .i64 x.lm.mx):=hcx 6 (by omega)
    have q7:(w.drewN n).cell? ⟨b,o+j * 8+7,none⟩=some (.bool x.lm.hs):=hcx 7 (by omega)
    have r0:(w.drewN n).cell? ⟨d,u+j * 8,none⟩=some (.string y.md):=hcy 0 (by omega)
    have r1:(w.drewN n).cell? ⟨d,u+j * 8+1,none⟩=some (.string y.nm):=hcy 1 (by omega)
    have r2:(w.drewN n).cell? ⟨d,u+j * 8+2,none⟩=some (.int .i64 y.kd):=hcy 2 (by omega)
    have r3:(w.drewN n).cell? ⟨d,u+j * 8+3,none⟩=some (.int .i64 y.ty):=hcy 3 (by omega)
    have r4:(w.drewN n).cell? ⟨d,u+j * 8+4,none⟩=some (.bool y.mu):=hcy 4 (by omega)
    have r5:(w.drewN n).cell? ⟨d,u+j * 8+5,none⟩=some (.int .i64 y.lm.mn):=hcy 5 (by omega)
    have r6:(w.drewN n).cell? ⟨d,u+j * 8+6,none⟩=some (.int .i64 y.lm.mx):=hcy 6 (by omega)
    have r7:(w.drewN n).cell? ⟨d,u+j * 8+7,none⟩=some (.bool y.lm.hs):=hcy 7 (by omega)
    have hs1:s.l.take (j+1)=s.l.take j++[x]:=by rw[qs,hx];rfl
    have hs2:t.l.take (j+1)=t.l.take j++[y]:=by rw[qs,hy];rfl
    have hne:x≠y->s.l≠t.l:=λh e=>by rw[e,hy]at hx;exact h (Option.some.inj hx).symm
    obtain⟨w0,hw0⟩:∃w0,w0=w.drewN n:=⟨_,rfl⟩
    have hb1':b<w0.heap.size:=by rw[hw0];exact hb
    have hb2':d<w0.heap.size:=by rw[hw0];exact hd
    rw[<-hw0]at q0 r0 q1 r1 q2 r2 q3 r3 q4 r4 q5 r5 q6 r6 q7 r7⊢
    rw[hA,hD]
    have HW:=hid hw0
    have HS1:=hid hs1
    have HS2:=hid hs2
    have HNE:=hid hne
    clear hcx hcy hx hy hokx hoky hA hD hw0 hs1 hs2 hne hb hd
    by_cases hxy:x=y
    ·
     subst hxy
     go_wp2_with fail
     go_quiet (fail)
     go_wp2_with fail
     go_roundw
     case rel=>exact⟨j+1,n+nq,by omega,by go_num,by rw[HW.out,jl],by rw[HS1.out,HS2.out,HE.out]⟩
     case measure=>simp[intOf];omega
    ·
     have tz:(x.md.toList==y.md.toList&&x.nm.toList==y.nm.toList&&x.kd==y.kd&&x.ty==y.ty&&x.mu==y.mu&&(x.lm.mn==y.lm.mn&&x.lm.mx==y.lm.mx&&x.lm.hs==y.lm.hs))=false:=by
      rw[Bool.eq_false_iff];intro e;apply hxy
      simp only[zp,beq_iff_eq]at e
      exact im_inj (bytes_inj e.1.1.1.1.1) (bytes_inj e.1.1.1.1.2) e.1.1.1.2 e.1.1.2 e.1.2 (lm_inj e.2.1.1 e.2.1.2 e.2.2)
     have HUV:=hid hxy
     clear hxy
     go_wp2_with fail
     go_quiet (fail)
     go_wp2_with fail
     go_ret
     refine Tells.mk_ _ (by simp;exact HNE.out HUV.out) ?_
     rw[HW.out,jl];exact bel_drewN _ _
   ·
    have h1:=zo (l:=s.l) (i:=j) (by omega)
    have h2:=zo (l:=t.l) (i:=j) (by have:=HL.out;omega)
    have HF:=hid (show s.l=t.l by rw[<-h1,<-h2];exact HE.out)
    clear h1 h2
    go_wp2_with fail
    go_ret
    exact Tells.mk_ _ (by simp;exact HF.out) (bel_drewN _ _)
 ·
  have tl:((s.l.length:Int) != (t.l.length:Int))=true:=by simp;omega
  have hne:s.l≠t.l:=λe=>hl (by rw[e])
  have HNE:=hid hne
  clear hne
  go_enter func38,ntmps38
  go_wp2_with fail
  go_ret
  exact Tells.mk_ _ (by simp;exact HNE.out) (zx _ _)
theorem newBlk{w0 w:World}{cs:Array Value}{t:TypeId}(h:Below (w0.alloc (.cells cs t)).heap.size (w0.alloc (.cells cs t)) w):
  w0.heap.size<w.heap.size/\(∀i,w.cell? ⟨w0.heap.size,i,none⟩=cs[i]?)/\(∀i,w.frozen? ⟨w0.heap.size,i,none⟩=false)/\Below w0.heap.size w0 w:=
 ⟨by have:=h.size;simp at this;omega,λi=>(h.cell (p:=⟨w0.heap.size,i,none⟩) (by simp)).trans (zv _ _ _ _ rfl),λi=>(h.frozen (p:=⟨w0.heap.size,i,none⟩) (by simp)).trans (zw _ _ _ _ rfl),bel_alloc h⟩
end Go.Proofs.YteoijlfipmaoeaaGreatDoor
