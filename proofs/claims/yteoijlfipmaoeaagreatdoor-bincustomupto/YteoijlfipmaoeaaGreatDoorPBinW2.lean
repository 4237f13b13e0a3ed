import Derived.Test.YteoijlfipmaoeaaGreatDoorPJ30
import Derived.Test.YteoijlfipmaoeaaGreatDoorPTreeR3
set_option linter.unusedVariables false
set_option linter.unusedSimpArgs false
namespace Go.Proofs.YteoijlfipmaoeaaGreatDoor.Bin
open Leb Trx
theorem spl_custom2(b:List UInt8)(p:Nat)(hi:Int)(n:Nat)(hn:n<128)(hb:b.length<=120)(c:UInt8)(hc:c.toNat=b.length):Sect.spl (0::c::b) p hi n=.ok [⟨0,p+2,b⟩]:=by
 have hu:uOf (c::b) 0 32=some (b.length,1):=by
  have h:=put_read b.length 32 b (by omega) (by omega)
  rw[putU_small (by omega),if_pos (by omega)]at h
  have e:UInt8.ofNat b.length=c:=by
   apply UInt8.toNat_inj.1
   rw[toNat_ofNat (by omega),hc]
  rw[e]at h
  exact h
 rw[Sect.spl_cons,if_neg (by simp[Sect.fol]),if_neg (by omega),hu]
 dsimp only
 rw[if_neg (by simp),xp (i:=1+b.length) (by simp;omega),Sect.spl_nil]
 simp[Sect.pre]
theorem dec_custom2(d:Dm)(h1:okD d)(h2:smD d)(h3:d.ft.length=d.fn.length)(hb:(encD d).length<4294967296)(hc:d.cu.length<64)(x:List UInt8)(c:UInt8)(hx:x.length<=120)(he:c.toNat=x.length)(cu:ByteArray×List UInt8)(hcu:(pCu cu).2=true)(hcs:sCu cu)(hcx:(pCu cu).1=x):
  decD (encD d++0::c::x)=some {d with cu:=d.cu++[cu]}:=by
 have hs:=split_enc d (0::c::x) h2 hb
 have hl:=secs_len d
 have hl2:=h2.cu.1
 rw[spl_custom2 x _ _ _ (by omega) hx c he]at hs
 unfold decD
 rw[hs]
 simp only[Sect.pre]
 have hp:=enc_placed d (0::c::x)
 rw[runS_append,run_back d 8 h1 h2 hp]
 dsimp only
 have hpl:Placed (encD d++0::c::x) ⟨0,(encD d).length+2,x⟩:=by
  refine placed_of (more:=[]) ?_ (by simp)
  rw[List.drop_append]
  simp
 rw[runS,stepS_of (g:=gCu d.cu.length) (f:=λy=>{d with cu:=d.cu++[y]}) (x:=cu) rfl hpl (λbs' q' hq h=>by rw[<-hcx]at h⊢;exact cu_back _ (by omega) cu bs' q' hcu hcs hq h)]
 dsimp only
 rw[runS]
 dsimp only
 rw[if_pos h3]
def cuX(b:List UInt8):ByteArray×List UInt8:=(⟨#[120]⟩,b)
theorem cuX_p(b:List UInt8):pCu (cuX b)=(1::120::b,true):=by
 have e1:eN 1=[1]:=by rw[(eN_of (n:=1) rfl).1];exact putU_small (by decide)
 have e2:text [120]=true:=by rfl
 have e:pName ⟨#[120]⟩=([1,120],true):=by
  show((pBytes [120]).1,(pBytes [120]).2&&text [120])=([1,120],true)
  rw[e2]
  show((eN 1++[120]),((num32 1&&true)&&true))=([1,120],true)
  rw[e1]
  rfl
 unfold pCu cuX cat
 rw[e]
 rfl
theorem dec_x{d:Dm}{b:List UInt8}(h1:okD d)(h2:smD d)(h3:d.ft.length=d.fn.length)(hb:(encD d).length<4294967296)(hc:d.cu.length<=60)(hx:b.length<=100):decD (encD d++([0,UInt8.ofNat (b.length+2),1,120]++b))=some {d with cu:=d.cu++[cuX b]}:=by
 have:=dec_custom2 d h1 h2 h3 hb (by omega) (1::120::b) (UInt8.ofNat (b.length+2)) (by simp;omega) (by rw[toNat_ofNat (by omega)];simp) (cuX b) (by rw[cuX_p]) ⟨by show(⟨#[120]⟩:ByteArray).data.toList.length<=64;decide,by show b.length<=4096;omega⟩ (by rw[cuX_p])
 simpa using this
end Go.Proofs.YteoijlfipmaoeaaGreatDoor.Bin
namespace Go.Proofs.YteoijlfipmaoeaaGreatDoor
open Go.RowKit Trx
theorem OwB.parts{w0 w:World}{v:Value}{bs:List UInt8}(h:OwB w0 w v bs):∃A c,v=.slice A bs.length c/\bs.length<=c/\c<=maxLen/\Sl w w.heap.size A (u8s bs):=by
 obtain⟨A,c,e,h1,h2,h3⟩:=OwnK.form h
 rw[ones_length,u8s_length]at e h1
 exact⟨A,c,e,h1,h2,h3.sl⟩
theorem SL.ok.take{α:Type}{cells:α->List Value}{ok:World->Nat->α->Prop}{k y:Nat}{w:World}{B:Nat}{s:SL α}(h:s.ok cells ok k y w B)(n:Nat)(hn:n<=s.l.length):SL.ok cells ok k y w B ⟨s.l.take n,s.A,s.c⟩:=by
 have hl:(s.l.take n).length=n:=by rw[qh];omega
 refine⟨by show(s.l.take n).length<=s.c;have:=h.le;omega,h.c,?_,λhne=>?_,λa ha=>h.all a (List.mem_of_mem_take ha)⟩
 ·
  show(s.l.take n).length * y<=RB
  have:=h.rb
  exact zy (Nat.mul_le_mul_right _ (by omega)) this
 ·
  obtain⟨b,o,hA,hb,hc⟩:=h.rows (λe=>hne (by
   have:s.l=[]:=by simpa using e
   show(s.l.take n).map cells=[]
   rw[this];simp))
  refine⟨b,o,hA,hb,λi r hi=>hc i r ?_⟩
  have hi:((s.l.take n).map cells)[i]? =some r:=hi
  rw[zr,ja]at hi
  rw[zr]
  split at hi
  ·exact hi
  ·cases hi
theorem lit_x(n:Nat)(hn:n<=100)(w:World):OwB w (w.alloc (.cells #[.int .u8 0,.int .u8 ((n:Int)+2),.int .u8 1,.int .u8 120] 5)) (.slice (some ⟨w.heap.size,0,none⟩) 4 4) [0,UInt8.ofNat (n+2),1,120]:=by
 have h:=OwB.litS w [0,UInt8.ofNat (n+2),1,120] (by unfold maxLen;simp) w.heap.size rfl
 have e:((UInt8.ofNat (n+2)).toNat:Int)=(n:Int)+2:=by rw[Leb.toNat_ofNat (by omega)];simp
 have e2:(u8s [0,UInt8.ofNat (n+2),1,120]).toArray=#[.int .u8 0,.int .u8 ((n:Int)+2),.int .u8 1,.int .u8 120]:=by
  unfold u8s
  simp only[qu,je]
  rw[e]
  rfl
 rw[e2]at h
 exact h
theorem cu_last{m m1:Mo}{b:List UInt8}(hk:keyM m1=Bin.toK {Bin.ofK (keyM m)with cu:=(Bin.ofK (keyM m)).cu++[Bin.cuX b]}):
  m1.cu.l.length=m.cu.l.length+1/\(∀x,m1.cu.l[m.cu.l.length]? =some x->x.nm=⟨#[120]⟩/\x.bs.bs=b)/\keyM {m1 with cu:=⟨m1.cu.l.take m.cu.l.length,m1.cu.A,m1.cu.c⟩}=keyM m:=by
 have h1:m1.cu.l.map kCu=m.cu.l.map kCu++[Bin.cuX b]:=congrArg KeyM.cu hk
 have hl:m1.cu.l.length=m.cu.l.length+1:=by simpa using congrArg List.length h1
 refine⟨hl,λx hx=>?_,?_⟩
 ·
  have h2:(m1.cu.l.map kCu)[m.cu.l.length]? =some (Bin.cuX b):=by rw[h1,List.getElem?_append_right (by simp)];simp
  rw[zr,hx]at h2
  injection h2 with h2
  exact⟨congrArg Prod.fst h2,congrArg Prod.snd h2⟩
 ·
  have h3:(m1.cu.l.take m.cu.l.length).map kCu=m.cu.l.map kCu:=by
   rw[xu,h1,List.take_append_of_le_length (by simp),zo (by simp)]
  have h4:=Bin.toK_ofK (keyM m)
  rw[<-h4]
  have h5:keyM {m1 with cu:=⟨m1.cu.l.take m.cu.l.length,m1.cu.A,m1.cu.c⟩}={keyM m1 with cu:=m.cu.l.map kCu}:=by
   unfold keyM
   dsimp only
   rw[h3]
  rw[h5,hk]
  rfl
end Go.Proofs.YteoijlfipmaoeaaGreatDoor
