import Derived.Test.YteoijlfipmaoeaaGreatDoorPJ8
import Derived.Test.YteoijlfipmaoeaaGreatDoorPJ9
import Derived.Test.YteoijlfipmaoeaaGreatDoorPTreeS6
set_option linter.unusedVariables false
set_option linter.unusedSimpArgs false
namespace Go.Proofs.YteoijlfipmaoeaaGreatDoor.Bin
open Leb Trx
abbrev Pc:=List UInt8×Bool
def cat(a b:Pc):Pc:=(a.1++b.1,a.2&&b.2)
abbrev Rd(α:Type):=List UInt8->Nat->Option (α×Nat)
def bnd{α β:Type}(g:Rd α)(k:α->Rd β):Rd β:=λbs p=>match g bs p with
 |none=>none
 |some x=>k x.1 bs x.2
def ret{α:Type}(x:α):Rd α:=λ_ p=>some (x,p)
def fl{α:Type}:Rd α:=λ_ _=>none
def Back{α:Type}(p:α->Pc)(s:α->Prop)(g:Rd α):Prop:=∀x bs q more,(p x).2=true->s x->q<=bs.length->bs.drop q=(p x).1++more->g bs q=some (x,q+(p x).1.length)
def Got{α:Type}(p:α->Pc)(s:α->Prop)(g:Rd α):Prop:=∀bs q x q',q<=bs.length->g bs q=some (x,q')->(p x).2=true/\s x/\q+(p x).1.length<=q'/\q'<=bs.length
theorem drop_next{bs a more:List UInt8}{q:Nat}(h:bs.drop q=a++more):bs.drop (q+a.length)=more:=by
 rw[<-jd,h,List.drop_left]
theorem drop_len{bs a more:List UInt8}{q:Nat}(hq:q<=bs.length)(h:bs.drop q=a++more):q+a.length<=bs.length:=by
 have:=congrArg List.length h
 simp at this
 omega
theorem bnd_some{α β:Type}{g:Rd α}{k:α->Rd β}{bs:List UInt8}{p q:Nat}{y:β}(h:bnd g k bs p=some (y,q)):∃x p',g bs p=some (x,p')/\k x bs p'=some (y,q):=by
 unfold bnd at h
 split at h
 ·cases h
 ·
  rename_i x hx
  exact⟨x.1,x.2,hx,h⟩
theorem bnd_at{α β:Type}{g:Rd α}(k:α->Rd β){bs:List UInt8}{p p':Nat}{x:α}(h:g bs p=some (x,p')):bnd g k bs p=k x bs p':=by
 unfold bnd;rw[h]
theorem ret_some{α:Type}{x y:α}{bs:List UInt8}{p q:Nat}(h:ret x bs p=some (y,q)):x=y/\p=q:=by
 unfold ret at h
 injection h with h
 injection h with h1 h2
 exact⟨h1,h2⟩
def pByte(b:UInt8):Pc:=([b],true)
def gByte:Rd UInt8:=λbs p=>(bs[p]?).map λb=>(b,p+1)
def all_{α:Type}:α->Prop:=λ_=>True
theorem byte_at{bs more:List UInt8}{q:Nat}{b:UInt8}(h:bs.drop q=b::more):bs[q]? =some b:=by
 have:(bs.drop q)[0]? =some b:=by rw[h];rfl
 simpa using this
theorem byte_back:Back pByte all_ gByte:=by
 intro x bs q more _ _ hq h
 unfold gByte
 rw[byte_at (more:=more) (by simpa[pByte]using h)]
 rfl
theorem byte_got:Got pByte all_ gByte:=by
 intro bs q x q' hq h
 unfold gByte at h
 cases hb:bs[q]? with
 |none=>rw[hb]at h;cases h
 |some b=>
  rw[hb]at h
  simp at h
  obtain⟨rfl,rfl⟩:=h
  have:=(List.getElem?_eq_some_iff.1 hb).1
  exact⟨rfl,trivial,by simp[pByte],by omega⟩
def pNum(n:Int):Pc:=(eN n,num32 n)
def gNum:Rd Int:=λbs p=>(uOf bs p 32).map λx=>((x.1:Int),x.2)
theorem eN_of{n:Int}(h:num32 n=true):eN n=putU n.toNat/\n.toNat<4294967296/\((n.toNat:Nat):Int)=n:=by
 unfold num32 at h
 simp at h
 refine⟨?_,by omega,by omega⟩
 unfold eN
 congr 1
 omega
theorem num_back:Back pNum all_ gNum:=by
 intro n bs q more hn _ hq h
 obtain⟨e1,e2,e3⟩:=eN_of hn
 unfold gNum
 rw[Sect.uOf_drop,h]
 show(Option.map _ (uOf (eN n++more) 0 32)).map _=some (n,q+(eN n).length)
 rw[e1,put_read _ 32 _ (by omega) (by omega),if_pos (by simpa using e2)]
 simp[e3]
theorem num_got:Got pNum all_ gNum:=by
 intro bs q x q' hq h
 unfold gNum at h
 cases hu:uOf bs q 32 with
 |none=>rw[hu]at h;cases h
 |some y=>
  obtain⟨u,n⟩:=y
  rw[hu]at h
  simp at h
  obtain⟨rfl,rfl⟩:=h
  have h1:=uOf_le _ _ _ _ _ hu
  obtain⟨h2,h3⟩:=uOf_short _ _ _ _ _ (by omega) hu
  have h4:u<4294967296:=by
   have h5:uOf (bs.drop q) 0 32=some (u,n-q):=by
    rw[Sect.uOf_drop]at hu
    cases h6:uOf (bs.drop q) 0 32 with
    |none=>rw[h6]at hu;cases hu
    |some z=>rw[h6]at hu;simp at hu;rw[<-hu.1,<-hu.2];simp
   exact uOf_range32 _ _ _ h5
  have hn:num32 (u:Int)=true:=by unfold num32;simp;omega
  refine⟨hn,trivial,?_,h1⟩
  show q+(eN (u:Int)).length<=n
  rw[(eN_of hn).1]
  simp
  omega
def pFlag(b:Bool):Pc:=([if b then 1 else 0],true)
def gFlag:Rd Bool:=bnd gByte λc=>if c.toNat<=1 then ret (c==1)else fl
theorem flag_back:Back pFlag all_ gFlag:=by
 intro x bs q more _ _ hq h
 unfold gFlag
 rw[bnd_at _ (byte_back _ bs q more rfl trivial hq h)]
 cases x<;>rfl
theorem flag_got:Got pFlag all_ gFlag:=by
 intro bs q x q' hq h
 obtain⟨c,p',h1,h2⟩:=bnd_some h
 obtain⟨-,-,g1,g2⟩:=byte_got bs q c p' hq h1
 split at h2
 ·
  obtain⟨rfl,rfl⟩:=ret_some h2
  exact⟨rfl,trivial,by simpa[pByte,pFlag]using g1,g2⟩
 ·cases h2
def pKind(k:Int):Pc:=([b8 k],decide (0<=k)&&decide (k<=3))
def gKind:Rd Int:=bnd gByte λc=>if c.toNat<=3 then ret (c.toNat:Int)else fl
theorem kind_back:Back pKind all_ gKind:=by
 intro x bs q more hx _ hq h
 simp[pKind]at hx
 unfold gKind
 rw[bnd_at _ (byte_back _ bs q more rfl trivial hq h)]
 have e:((b8 x).toNat:Int)=x:=by unfold b8;rw[toNat_ofNat (by omega)];omega
 rw[if_pos (by omega)]
 unfold ret
 rw[e]
 rfl
theorem kind_got:Got pKind all_ gKind:=by
 intro bs q x q' hq h
 obtain⟨c,p',h1,h2⟩:=bnd_some h
 obtain⟨-,-,g1,g2⟩:=byte_got bs q c p' hq h1
 split at h2
 ·
  rename_i hc
  obtain⟨rfl,rfl⟩:=ret_some h2
  exact⟨by simp[pKind];omega,trivial,by simpa[pByte,pKind]using g1,g2⟩
 ·cases h2
def pType(t:Int):Pc:=if t=1 then([127],true)else if t=2 then([126],true)else([],false)
def gType:Rd Int:=bnd gByte λc=>if c=127 then ret 1 else if c=126 then ret 2 else fl
theorem type_of{t:Int}(h:(pType t).2=true):(t=1/\pType t=([127],true))\/(t=2/\pType t=([126],true)):=by
 unfold pType at h
 split at h
 ·rename_i e;subst e;exact .inl ⟨rfl,rfl⟩
 ·
  split at h
  ·rename_i e;subst e;exact .inr ⟨rfl,rfl⟩
  ·cases h
theorem type_back:Back pType all_ gType:=by
 intro x bs q more hx _ hq h
 unfold gType
 rcases type_of hx with⟨rfl,e⟩|⟨rfl,e⟩
 ·
  rw[e]at h⊢
  rw[bnd_at _ (byte_back 127 bs q more rfl trivial hq h)]
  rfl
 ·
  rw[e]at h⊢
  rw[bnd_at _ (byte_back 126 bs q more rfl trivial hq h)]
  rfl
theorem type_got:Got pType all_ gType:=by
 intro bs q x q' hq h
 obtain⟨c,p',h1,h2⟩:=bnd_some h
 obtain⟨-,-,g1,g2⟩:=byte_got bs q c p' hq h1
 split at h2
 ·
  obtain⟨rfl,rfl⟩:=ret_some h2
  exact⟨rfl,trivial,by simpa[pByte,pType]using g1,g2⟩
 ·
  split at h2
  ·
   obtain⟨rfl,rfl⟩:=ret_some h2
   exact⟨rfl,trivial,by simpa[pByte,pType]using g1,g2⟩
  ·cases h2
def gOnly(x:UInt8):Rd Unit:=bnd gByte λc=>if c=x then ret ()else fl
theorem only_back(x:UInt8):Back (λ_:Unit=>pByte x) all_ (gOnly x):=by
 intro y bs q more _ _ hq h
 unfold gOnly
 rw[bnd_at _ (byte_back x bs q more rfl trivial hq h),if_pos rfl]
 rfl
theorem only_got(x:UInt8):Got (λ_:Unit=>pByte x) all_ (gOnly x):=by
 intro bs q y q' hq h
 obtain⟨c,p',h1,h2⟩:=bnd_some h
 obtain⟨-,-,g1,g2⟩:=byte_got bs q c p' hq h1
 split at h2
 ·
  obtain⟨-,rfl⟩:=ret_some h2
  exact⟨rfl,trivial,by simpa[pByte]using g1,g2⟩
 ·cases h2
def gZero:Rd Unit:=bnd gNum λn=>if n=0 then ret ()else fl
theorem zero_back:Back (λ_:Unit=>pNum 0) all_ gZero:=by
 intro y bs q more _ _ hq h
 unfold gZero
 rw[bnd_at _ (num_back 0 bs q more rfl trivial hq h),if_pos rfl]
 rfl
theorem zero_got:Got (λ_:Unit=>pNum 0) all_ gZero:=by
 intro bs q y q' hq h
 obtain⟨n,p',h1,h2⟩:=bnd_some h
 obtain⟨g0,-,g1,g2⟩:=num_got bs q n p' hq h1
 split at h2
 ·
  rename_i e
  subst e
  obtain⟨-,rfl⟩:=ret_some h2
  exact⟨rfl,trivial,g1,g2⟩
 ·cases h2
def pAll{α:Type}(p:α->Pc)(l:List α):Pc:=(l.flatMap λx=>(p x).1,l.all λx=>(p x).2)
def pList{α:Type}(p:α->Pc)(l:List α):Pc:=cat (pNum l.length) (pAll p l)
def gN{α:Type}(g:Rd α):Nat->Rd (List α)
 |0=>ret []
 |n+1=>bnd g λx=>bnd (gN g n) λl=>ret (x::l)
def gList{α:Type}(lim:Nat)(g:Rd α):Rd (List α):=bnd gNum λn=>if n<=lim then gN g n.toNat else fl
def sL{α:Type}(lim:Nat)(s:α->Prop)(l:List α):Prop:=l.length<=lim/\∀x∈l,s x
theorem pAll_cons{α:Type}(p:α->Pc)(x:α)(l:List α):pAll p (x::l)=cat (p x) (pAll p l):=by simp[pAll,cat]
theorem pAll_snoc{α:Type}(p:α->Pc)(x:α)(l:List α):pAll p (l++[x])=cat (pAll p l) (p x):=by simp[pAll,cat]
theorem gN_back{α:Type}{p:α->Pc}{s:α->Prop}{g:Rd α}(H:Back p s g):∀(l:List α) (bs:List UInt8) (q:Nat) (more:List UInt8),(pAll p l).2=true->(∀x∈l,s x)->q<=bs.length->bs.drop q=(pAll p l).1++more->gN g l.length bs q=some (l,q+(pAll p l).1.length)
 | [],bs,q,more,_,_,_,_=>by simp[gN,ret,pAll]
 |x::l,bs,q,more,h1,h2,hq,h=>by
  rw[pAll_cons]at h1 h⊢
  simp only[cat,zp,xk,zt]at h1 h2 h
  rw[zl,gN,bnd_at _ (H x bs q _ h1.1 h2.1 hq h),bnd_at _ (gN_back H l bs _ more h1.2 h2.2 (drop_len hq h) (drop_next h))]
  simp[ret,cat]
  omega
theorem gN_got{α:Type}{p:α->Pc}{s:α->Prop}{g:Rd α}(H:Got p s g):∀(n:Nat) (bs:List UInt8) (q:Nat) (l:List α) (q':Nat),q<=bs.length->gN g n bs q=some (l,q')->l.length=n/\(pAll p l).2=true/\(∀x∈l,s x)/\q+(pAll p l).1.length<=q'/\q'<=bs.length
 |0,bs,q,l,q',hq,h=>by
  obtain⟨rfl,rfl⟩:=ret_some h
  exact⟨rfl,rfl,by simp,by simp[pAll],hq⟩
 |n+1,bs,q,l,q',hq,h=>by
  obtain⟨x,p1,h1,h2⟩:=bnd_some h
  obtain⟨a1,a2,a3,a4⟩:=H bs q x p1 hq h1
  obtain⟨r,p2,h3,h4⟩:=bnd_some h2
  obtain⟨b0,b1,b2,b3,b4⟩:=gN_got H n bs p1 r p2 a4 h3
  obtain⟨rfl,rfl⟩:=ret_some h4
  rw[pAll_cons]
  refine⟨by simp[b0],by simp[cat,a1,b1],List.forall_mem_cons.2 ⟨a2,b2⟩,by simp[cat];omega,b4⟩
theorem eN_small{n:Nat}(h:n<128):eN (n:Int)=[UInt8.ofNat n]:=by
 have hn:num32 (n:Int)=true:=by unfold num32;simp;omega
 rw[(eN_of hn).1,putU_small (by simpa using h)]
 simp
theorem list_back{α:Type}{p:α->Pc}{s:α->Prop}{g:Rd α}(H:Back p s g)(lim:Nat):Back (pList p) (sL lim s) (gList lim g):=by
 intro l bs q more h1 h2 hq h
 unfold pList cat at h1 h⊢
 simp only[zp,zt]at h1 h
 unfold gList
 rw[bnd_at _ (num_back _ bs q _ h1.1 trivial hq h),if_pos (by have:=h2.1;omega),xn,gN_back H l bs _ more h1.2 h2.2 (drop_len hq h) (drop_next h)]
 simp
 omega
theorem list_got{α:Type}{p:α->Pc}{s:α->Prop}{g:Rd α}(H:Got p s g)(lim:Nat):Got (pList p) (sL lim s) (gList lim g):=by
 intro bs q l q' hq h
 obtain⟨n,p1,h1,h2⟩:=bnd_some h
 obtain⟨a1,-,a3,a4⟩:=num_got bs q n p1 hq h1
 split at h2
 ·
  rename_i hn
  obtain⟨b0,b1,b2,b3,b4⟩:=gN_got H _ bs p1 l q' a4 h2
  have hn0:0<=n:=by simp[pNum,num32]at a1;omega
  have e:((l.length:Nat):Int)=n:=by omega
  unfold pList
  rw[e]
  refine⟨by simp[cat,a1,b1],⟨by omega,b2⟩,by simp[cat];omega,b4⟩
 ·cases h2
theorem pAll_bytes(l:List UInt8):pAll pByte l=(l,true):=by
 induction l with
 |nil=>rfl
 |cons b l ih=>rw[pAll_cons,ih];rfl
def pBytes(l:List UInt8):Pc:=cat (pNum l.length) (l,true)
theorem pBytes_eq(l:List UInt8):pList pByte l=pBytes l:=by unfold pList pBytes;rw[pAll_bytes]
def text(l:List UInt8):Bool:=(Utf.all l).2.isNone
def pName(s:ByteArray):Pc:=((pBytes s.data.toList).1,(pBytes s.data.toList).2&&text s.data.toList)
def sName(s:ByteArray):Prop:=s.data.toList.length<=64
def gName:Rd ByteArray:=bnd (gList 64 gByte) λl=>if text l=true then ret ⟨l.toArray⟩else fl
theorem name_back:Back pName sName gName:=by
 intro x bs q more h1 h2 hq h
 simp only[pName,zp]at h1 h⊢
 rw[<-pBytes_eq]at h1 h⊢
 unfold gName
 rw[bnd_at _ (list_back byte_back 64 _ bs q more h1.1 ⟨h2,λ_ _=>trivial⟩ hq h),if_pos h1.2]
 rfl
theorem name_got:Got pName sName gName:=by
 intro bs q x q' hq h
 obtain⟨l,p',h1,h2⟩:=bnd_some h
 obtain⟨g0,g1,g2,g3⟩:=list_got byte_got 64 bs q l p' hq h1
 split at h2
 ·
  rename_i ht
  obtain⟨rfl,rfl⟩:=ret_some h2
  rw[pBytes_eq]at g0 g2
  exact⟨by simp[pName,g0,ht],by simpa[sName]using g1.1,by simpa[pName]using g2,g3⟩
 ·cases h2
def pLim(l:Lm):Pc:=cat (pFlag l.hs) (cat (pNum l.mn) (if l.hs=true then pNum l.mx else([],decide (l.mx=0))))
def gLim:Rd Lm:=bnd gFlag λh=>bnd gNum λn=>if h=true then bnd gNum λx=>ret ⟨n,x,true⟩else ret ⟨n,0,false⟩
theorem lim_back:Back pLim all_ gLim:=by
 rintro⟨mn,mx,hs⟩ bs q more h1 _ hq h
 unfold pLim cat at h1 h⊢
 simp only[zp,zt]at h1 h
 unfold gLim
 rw[bnd_at _ (flag_back hs bs q _ rfl trivial hq h)]
 have h':=drop_next h
 have hq':=drop_len hq h
 rw[bnd_at _ (num_back mn bs _ _ h1.2.1 trivial hq' h')]
 have h'':=drop_next h'
 have hq'':=drop_len hq' h'
 cases hs with
 |true=>
  rw[if_pos rfl]at h1 h''⊢
  rw[if_pos rfl,bnd_at _ (num_back mx bs _ _ h1.2.2 trivial hq'' h'')]
  simp[ret]
  omega
 |false=>
  rw[if_neg (by simp)]at h1⊢
  rw[if_neg (by simp)]
  have:mx=0:=by simpa using h1.2.2
  subst this
  simp[ret]
  omega
theorem lim_got:Got pLim all_ gLim:=by
 intro bs q x q' hq h
 obtain⟨hs,p1,h1,h2⟩:=bnd_some h
 obtain⟨a1,-,a3,a4⟩:=flag_got bs q hs p1 hq h1
 obtain⟨mn,p2,h3,h4⟩:=bnd_some h2
 obtain⟨b1,-,b3,b4⟩:=num_got bs p1 mn p2 a4 h3
 split at h4
 ·
  rename_i e
  obtain⟨mx,p3,h5,h6⟩:=bnd_some h4
  obtain⟨c1,-,c3,c4⟩:=num_got bs p2 mx p3 b4 h5
  obtain⟨rfl,rfl⟩:=ret_some h6
  subst e
  exact⟨by simp[pLim,cat,a1,b1,c1],trivial,by simp[pLim,cat]at a3⊢;omega,c4⟩
 ·
  rename_i e
  obtain⟨rfl,rfl⟩:=ret_some h4
  have e':hs=false:=by simpa using e
  subst e'
  exact⟨by simp[pLim,cat,a1,b1],trivial,by simp[pLim,cat]at a3⊢;omega,b4⟩
def pTab(l:Lm):Pc:=cat (pByte 112) (pLim l)
def gTab:Rd Lm:=bnd (gOnly 112) λ_=>gLim
theorem tab_back:Back pTab all_ gTab:=by
 intro x bs q more h1 _ hq h
 unfold pTab cat at h1 h⊢
 simp only[zp,zt]at h1 h
 unfold gTab
 rw[bnd_at _ (only_back 112 () bs q _ rfl trivial hq h),lim_back x bs _ _ h1.2 trivial (drop_len hq h) (drop_next h)]
 simp
 omega
theorem tab_got:Got pTab all_ gTab:=by
 intro bs q x q' hq h
 obtain⟨u,p1,h1,h2⟩:=bnd_some h
 obtain⟨a1,-,a3,a4⟩:=only_got 112 bs q u p1 hq h1
 obtain⟨b1,-,b3,b4⟩:=lim_got bs p1 x q' a4 h2
 exact⟨by simp[pTab,cat,pByte,b1],trivial,by simp[pTab,cat]at a3⊢;omega,b4⟩
def pExpr(f:Fo):Pc:=if may f=true then(enc f++[11],true)else([],false)
structure sX(f:Fo):Prop where
 lsh:lsh f=true
 vok:vok f
 cnt:cnt f<=512
 dp:dp f<=32
def gExpr:Rd Fo:=λbs p=>match rdE (bs.drop p) p with
 |.error _=>none
 |.ok (f,_,p')=>some (f,p')
theorem expr_back:Back pExpr sX gExpr:=by
 intro f bs q more h1 h2 hq h
 unfold pExpr at h1 h⊢
 split at h1
 ·
  rename_i hm
  rw[if_pos hm]at h⊢
  unfold gExpr
  rw[h,zt,xd,put_back f more q hm h2.lsh h2.vok h2.cnt h2.dp]
  simp
  omega
 ·cases h1
theorem expr_got:Got pExpr sX gExpr:=by
 intro bs q f q' hq h
 unfold gExpr at h
 split at h
 ·cases h
 ·
  rename_i f' l' p' hr
  simp at h
  obtain⟨rfl,rfl⟩:=h
  obtain⟨g1,g2,g3,g4,g5,g6,g7,-⟩:=get_back hr
  rw[qc]at g7
  unfold pExpr
  rw[if_pos g1]
  exact⟨rfl,⟨g2,g3,g4,g5⟩,by simp;omega,by omega⟩
def pOne(n:Nd):Pc:=pExpr (ofN [n])
def sOne(n:Nd):Prop:=sX (ofN [n])
def gOne:Rd Nd:=bnd gExpr λf=>match nds f with
 | [n]=>ret n
 |_=>fl
theorem one_back:Back pOne sOne gOne:=by
 intro n bs q more h1 h2 hq h
 unfold gOne
 rw[bnd_at _ (expr_back (ofN [n]) bs q more h1 h2 hq h),nds_ofN]
 rfl
theorem one_got:Got pOne sOne gOne:=by
 intro bs q n q' hq h
 obtain⟨f,p1,h1,h2⟩:=bnd_some h
 obtain⟨a1,a2,a3,a4⟩:=expr_got bs q f p1 hq h1
 cases e:nds f with
 |nil=>simp only[e]at h2;cases h2
 |cons n' r=>
  cases r with
  |nil=>
   simp only[e]at h2
   obtain⟨rfl,rfl⟩:=ret_some h2
   have e2:f=ofN [n']:=by rw[<-e,ofN_nds]
   subst e2
   exact⟨a1,a2,a3,a4⟩
  |cons _ _=>simp only[e]at h2;cases h2
def more1(r:List (Nat×Int))(t:Int):List (Nat×Int):=match r.getLast? with
 |none=>[(1,t)]
 |some x=>if x.2=t then r.dropLast++[(x.1+1,t)]else r++[(1,t)]
def runs(l:List Int):List (Nat×Int):=l.foldl more1 []
def expd(r:List (Nat×Int)):List Int:=r.flatMap λx=>List.replicate x.1 x.2
theorem expd_append(a b:List (Nat×Int)):expd (a++b)=expd a++expd b:=by simp[expd]
theorem more1_snoc(a:List (Nat×Int))(n:Nat)(k t:Int):more1 (a++[(n,k)]) t=if k=t then a++[(n+1,t)]else a++[(n,k),(1,t)]:=by
 unfold more1
 simp
theorem list_last{α:Type}(r:List α):r=[]\/∃a x,r=a++[x]:=by
 rcases List.eq_nil_or_concat r with h|⟨a,x,h⟩
 ·exact .inl h
 ·exact .inr ⟨a,x,by simpa using h⟩
theorem expd_more1(r:List (Nat×Int))(t:Int):expd (more1 r t)=expd r++[t]:=by
 rcases list_last r with rfl|⟨a,⟨n,k⟩,rfl⟩
 ·rfl
 ·
  rw[more1_snoc]
  split
  ·
   rename_i e;subst e
   simp[expd,List.replicate_succ']
  ·simp[expd]
theorem runs_snoc(l:List Int)(t:Int):runs (l++[t])=more1 (runs l) t:=by simp[runs]
theorem expd_runs(l:List Int):expd (runs l)=l:=by
 have:∀(l:List Int) (r:List (Nat×Int)),expd (l.foldl more1 r)=expd r++l:=by
  intro l
  induction l with
  |nil=>simp
  |cons t l ih=>intro r;rw[List.foldl_cons,ih,expd_more1];simp
 simpa[runs,expd]using this l []
theorem more1_len(r:List (Nat×Int))(t:Int):(more1 r t).length<=r.length+1/\r.length<=(more1 r t).length:=by
 rcases list_last r with rfl|⟨a,⟨n,k⟩,rfl⟩
 ·simp[more1]
 ·
  rw[more1_snoc]
  split<;>simp
theorem fold_rep(t:Int):∀(k:Nat) (r:List (Nat×Int)),(List.foldl more1 r (List.replicate k t)).length<=r.length+1:=by
 have h1:∀(k:Nat) (a:List (Nat×Int)) (n:Nat),List.foldl more1 (a++[(n,t)]) (List.replicate k t)=a++[(n+k,t)]:=by
  intro k
  induction k with
  |zero=>simp
  |succ k ih=>intro a n;rw[xe,List.foldl_cons,more1_snoc,if_pos rfl,ih];simp;omega
 intro k r
 cases k with
 |zero=>simp
 |succ k=>
  rw[xe,List.foldl_cons]
  rcases list_last r with rfl|⟨a,⟨n,j⟩,rfl⟩
  ·
   have:=h1 k [] 1
   simp only[qx]at this
   simp[more1,this]
  ·
   rw[more1_snoc]
   split
   ·rw[h1];simp
   ·rw[show a++[(n,j),(1,t)]=(a++[(n,j)])++[(1,t)]by simp,h1];simp
theorem runs_expd:∀(r:List (Nat×Int)),(runs (expd r)).length<=r.length:=by
 have:∀(r a:List (Nat×Int)),(List.foldl more1 a (expd r)).length<=a.length+r.length:=by
  intro r
  induction r with
  |nil=>intro a;simp[expd]
  |cons x r ih=>
   intro a
   have e:expd (x::r)=List.replicate x.1 x.2++expd r:=by simp[expd]
   rw[e,List.foldl_append]
   have h1:=ih (List.foldl more1 a (List.replicate x.1 x.2))
   have h2:=fold_rep x.2 x.1 a
   simp
   omega
 intro r
 have h:=this r []
 rw[zh,qz]at h
 exact h
theorem expd_len(r:List (Nat×Int)):(expd r).length=(r.map (·.1)).sum:=by
 induction r with
 |nil=>rfl
 |cons x r ih=>(simp[expd]at ih⊢)<;>omega
theorem mem_sum{l:List Nat}{a:Nat}(h:a∈l):a<=l.sum:=by
 induction l with
 |nil=>simp at h
 |cons b l ih=>
  rcases List.mem_cons.1 h with rfl|h
  ·simp
  ·have:=ih h;simp;omega
def pRun(x:Nat×Int):Pc:=cat (pNum x.1) (pType x.2)
def pLoc(l:List Int):Pc:=pList pRun (runs l)
def gRuns:Nat->Nat->Rd (List (Nat×Int))
 |0,_=>ret []
 |n+1,room=>bnd gNum λk=>if k<=room then bnd gType λt=>bnd (gRuns n (room-k.toNat)) λr=>ret ((k.toNat,t)::r)else fl
def gLoc:Rd (List Int):=bnd gNum λn=>bnd (gRuns n.toNat 64) λr=>ret (expd r)
theorem gRuns_back:∀(r:List (Nat×Int)) (room:Nat) (bs:List UInt8) (q:Nat) (more:List UInt8),(pAll pRun r).2=true->(expd r).length<=room->room<=64->q<=bs.length->bs.drop q=(pAll pRun r).1++more->gRuns r.length room bs q=some (r,q+(pAll pRun r).1.length)
 | [],room,bs,q,more,_,_,_,_,_=>by simp[gRuns,ret,pAll]
 |x::r,room,bs,q,more,h1,h2,h6,hq,h=>by
  rw[pAll_cons]at h1 h⊢
  simp only[cat,pRun,zp,zt]at h1 h
  have hx:x.1+(expd r).length<=room:=by simpa[expd]using h2
  have g1:=drop_next h
  have q1:=drop_len hq h
  have g2:=drop_next g1
  have q2:=drop_len q1 g1
  rw[zl,gRuns,bnd_at _ (num_back (x.1:Int) bs q _ h1.1.1 trivial hq h),if_pos (by omega),bnd_at _ (type_back x.2 bs _ _ h1.1.2 trivial q1 g1),xn,
   bnd_at _ (gRuns_back r (room-x.1) bs _ more h1.2 (by omega) (by omega) q2 g2)]
  simp[ret,cat,pRun]
  omega
theorem gRuns_got:∀(n room:Nat) (bs:List UInt8) (q:Nat) (r:List (Nat×Int)) (q':Nat),q<=bs.length->gRuns n room bs q=some (r,q')->r.length=n/\(r.all λx=>(pType x.2).2)=true/\(expd r).length<=room/\q+2 * n<=q'/\q'<=bs.length
 |0,room,bs,q,r,q',hq,h=>by
  obtain⟨rfl,rfl⟩:=ret_some h
  exact⟨rfl,rfl,by simp[expd],by omega,hq⟩
 |n+1,room,bs,q,r,q',hq,h=>by
  obtain⟨k,p1,h1,h2⟩:=bnd_some h
  obtain⟨a1,-,a3,a4⟩:=num_got bs q k p1 hq h1
  split at h2
  ·
   rename_i hk
   obtain⟨t,p2,h3,h4⟩:=bnd_some h2
   obtain⟨b1,-,b3,b4⟩:=type_got bs p1 t p2 a4 h3
   obtain⟨r',p3,h5,h6⟩:=bnd_some h4
   obtain⟨c0,c1,c2,c3,c4⟩:=gRuns_got n _ bs p2 r' p3 b4 h5
   obtain⟨rfl,rfl⟩:=ret_some h6
   have hk0:0<=k:=by simp[pNum,num32]at a1;omega
   have hp:0<(pNum k).1.length:=by show 0<(eN k).length;unfold eN;exact putU_pos _
   have ht:(pType t).1.length=1:=by rcases type_of b1 with⟨-,e⟩|⟨-,e⟩<;>rw[e]<;>rfl
   exact⟨by simp[c0],by simp[b1];simpa using c1,by simp[expd]at c2⊢;omega,by omega,c4⟩
  ·cases h2
theorem more1_all(P:Int->Prop)(r:List (Nat×Int))(t:Int)(h:∀x∈r,P x.2)(ht:P t):∀x∈more1 r t,P x.2:=by
 rcases list_last r with rfl|⟨a,⟨n,k⟩,rfl⟩
 ·simpa[more1]using ht
 ·
  rw[more1_snoc]
  split
  ·
   rename_i e
   intro x hx
   simp at hx
   rcases hx with hx|rfl
   ·exact h x (by simp[hx])
   ·exact ht
  ·
   intro x hx
   simp at hx
   rcases hx with hx|rfl|rfl
   ·exact h x (by simp[hx])
   ·exact h (n,k) (by simp)
   ·exact ht
theorem runs_all(P:Int->Prop):∀(l:List Int),(∀t∈l,P t)->∀x∈runs l,P x.2:=by
 have:∀(l:List Int) (r:List (Nat×Int)),(∀x∈r,P x.2)->(∀t∈l,P t)->∀x∈l.foldl more1 r,P x.2:=by
  intro l
  induction l with
  |nil=>intro r h _;exact h
  |cons t l ih=>intro r h1 h2;exact ih _ (more1_all P r t h1 (h2 t (by simp))) (λx hx=>h2 x (by simp[hx]))
 intro l h
 exact this l [] (by simp) h
theorem pAll_runs_len:∀(r:List (Nat×Int)),(∀x∈r,(pType x.2).2=true/\x.1<=64)->(pAll pRun r).2=true/\(pAll pRun r).1.length=2 * r.length
 | [],_=>by simp[pAll]
 |x::r,h=>by
  obtain⟨h1,h2⟩:=pAll_runs_len r λy hy=>h y (by simp[hy])
  obtain⟨g1,g2⟩:=h x (by simp)
  rw[pAll_cons]
  have ht:(pType x.2).1.length=1:=by rcases type_of g1 with⟨-,e⟩|⟨-,e⟩<;>rw[e]<;>rfl
  have hn:(pNum (x.1:Int)).1.length=1:=by show(eN (x.1:Int)).length=1;rw[eN_small (by omega)];rfl
  have hk:(pNum (x.1:Int)).2=true:=by simp[pNum,num32];omega
  refine⟨by simp[cat,pRun,h1,g1,hk],by simp[cat,pRun,h2,ht,hn];omega⟩
def sLoc(l:List Int):Prop:=l.length<=64
theorem loc_back:Back pLoc sLoc gLoc:=by
 intro l bs q more h1 h2 hq h
 unfold pLoc pList cat at h1 h⊢
 simp only[zp,zt]at h1 h
 unfold gLoc
 rw[bnd_at _ (num_back _ bs q _ h1.1 trivial hq h),xn,bnd_at _ (gRuns_back _ 64 bs _ _ h1.2 (by rw[expd_runs];exact h2) (by omega) (drop_len hq h) (drop_next h)),expd_runs]
 simp[ret]
 omega
theorem loc_got:Got pLoc sLoc gLoc:=by
 intro bs q l q' hq h
 obtain⟨n,p1,h1,h2⟩:=bnd_some h
 obtain⟨a1,-,a3,a4⟩:=num_got bs q n p1 hq h1
 obtain⟨r,p2,h3,h4⟩:=bnd_some h2
 obtain⟨b0,b1,b2,b3,b4⟩:=gRuns_got _ _ bs p1 r p2 a4 h3
 obtain⟨rfl,rfl⟩:=ret_some h4
 have hn:=runs_expd r
 have hty:∀x∈runs (expd r),(pType x.2).2=true:=runs_all (λt=>(pType t).2=true) _ (by
  intro t ht
  simp only[expd,List.mem_flatMap]at ht
  obtain⟨x,hx,hr⟩:=ht
  rw[List.mem_replicate]at hr
  have:=List.all_eq_true.1 b1 x hx
  rw[hr.2];exact this)
 have hsz:∀x∈runs (expd r),x.1<=64:=by
  intro x hx
  have e:=expd_len (runs (expd r))
  rw[expd_runs]at e
  have:=mem_sum (qp (f:=(·.1)) hx)
  omega
 obtain⟨c1,c2⟩:=pAll_runs_len (runs (expd r)) λx hx=>⟨hty x hx,hsz x hx⟩
 have hn0:0<=n:=by simp[pNum,num32]at a1;omega
 have hl64:(runs (expd r)).length<=64:=by
  have e:=expd_runs (expd r)
  have:(runs (expd r)).length<=(expd r).length:=by
   have:∀(l:List Int),(runs l).length<=l.length:=by
    intro l
    have:∀(l:List Int) (a:List (Nat×Int)),(l.foldl more1 a).length<=a.length+l.length:=by
     intro l
     induction l with
     |nil=>simp
     |cons t l ih=>intro a;have:=ih (more1 a t);have:=(more1_len a t).1;simp;omega
    have h:=this l []
    rw[zh,qz]at h
    exact h
   exact this _
  omega
 have hp:0<(pNum n).1.length:=by show 0<(eN n).length;unfold eN;exact putU_pos _
 have h1l:(pNum ((runs (expd r)).length:Int)).1.length=1:=by show(eN _).length=1;rw[eN_small (by omega)];rfl
 refine⟨?_,by unfold sLoc;omega,?_,b4⟩
 ·simp[pLoc,pList,cat,c1,pNum,num32];omega
 ·simp only[pLoc,pList,cat,zz,c2,h1l];omega
def pFt(x:List Int×List Int):Pc:=cat (pByte 96) (cat (pList pType x.1) (pList pType x.2))
def sFt(x:List Int×List Int):Prop:=x.1.length<=64/\x.2.length<=64
def gFt:Rd (List Int×List Int):=bnd (gOnly 96) λ_=>bnd (gList 64 gType) λa=>bnd (gList 64 gType) λb=>ret (a,b)
theorem ft_back:Back pFt sFt gFt:=by
 intro x bs q more h1 h2 hq h
 unfold pFt cat at h1 h⊢
 simp only[zp,zt]at h1 h
 unfold gFt
 have g1:=drop_next h
 have q1:=drop_len hq h
 have g2:=drop_next g1
 have q2:=drop_len q1 g1
 rw[bnd_at _ (only_back 96 () bs q _ rfl trivial hq h),bnd_at _ (list_back type_back 64 x.1 bs _ _ h1.2.1 ⟨h2.1,λ_ _=>trivial⟩ q1 g1),bnd_at _ (list_back type_back 64 x.2 bs _ _ h1.2.2 ⟨h2.2,λ_ _=>trivial⟩ q2 g2)]
 simp[ret]
 omega
theorem ft_got:Got pFt sFt gFt:=by
 intro bs q x q' hq h
 obtain⟨u,p1,h1,h2⟩:=bnd_some h
 obtain⟨a1,-,a3,a4⟩:=only_got 96 bs q u p1 hq h1
 obtain⟨a,p2,h3,h4⟩:=bnd_some h2
 obtain⟨b1,b2,b3,b4⟩:=list_got type_got 64 bs p1 a p2 a4 h3
 obtain⟨b,p3,h5,h6⟩:=bnd_some h4
 obtain⟨c1,c2,c3,c4⟩:=list_got type_got 64 bs p2 b p3 b4 h5
 obtain⟨rfl,rfl⟩:=ret_some h6
 exact⟨by simp[pFt,cat,pByte,b1,c1],⟨b2.1,c2.1⟩,by simp[pFt,cat]at a3⊢;omega,c4⟩
def zLm:Lm:=⟨0,0,false⟩
def pImp(i:Im):Pc:=
 if i.kd=0 then cat (pNum i.ty) ([],!i.mu&&decide (i.lm=zLm))
 else if i.kd=1 then cat (pTab i.lm) ([],decide (i.ty=0)&&!i.mu)
 else if i.kd=2 then cat (pLim i.lm) ([],decide (i.ty=0)&&!i.mu)
 else if i.kd=3 then cat (pType i.ty) (cat (pFlag i.mu) ([],decide (i.lm=zLm)))
 else([],false)
def pIm(i:Im):Pc:=cat (pName i.md) (cat (pName i.nm) (cat (pKind i.kd) (pImp i)))
def sIm(i:Im):Prop:=sName i.md/\sName i.nm
def gImp(a b:ByteArray)(k:Int):Rd Im:=
 if k=0 then bnd gNum λt=>ret ⟨a,b,k,t,false,zLm⟩
 else if k=1 then bnd gTab λl=>ret ⟨a,b,k,0,false,l⟩
 else if k=2 then bnd gLim λl=>ret ⟨a,b,k,0,false,l⟩
 else bnd gType λt=>bnd gFlag λu=>ret ⟨a,b,k,t,u,zLm⟩
def gIm:Rd Im:=bnd gName λa=>bnd gName λb=>bnd gKind λk=>gImp a b k
theorem imp_back(i:Im)(bs:List UInt8)(q:Nat)(more:List UInt8)(h1:(pImp i).2=true)(hq:q<=bs.length)(h:bs.drop q=(pImp i).1++more):gImp i.md i.nm i.kd bs q=some (i,q+(pImp i).1.length):=by
 obtain⟨md,nm,kd,ty,mu,lm⟩:=i
 unfold pImp at h1 h⊢
 unfold gImp
 dsimp only at h1 h⊢
 split at h1
 ·
  rename_i e
  rw[if_pos e]at h⊢
  rw[if_pos e]
  simp only[cat,zp,zt,Bool.not_eq_true',decide_eq_true_eq,jy]at h1 h⊢
  obtain⟨h1,rfl,rfl⟩:=h1
  rw[bnd_at _ (num_back ty bs q more h1 trivial hq h)]
  rfl
 ·
  rename_i e0
  rw[if_neg e0]at h⊢
  rw[if_neg e0]
  split at h1
  ·
   rename_i e
   rw[if_pos e]at h⊢
   rw[if_pos e]
   simp only[cat,zp,zt,Bool.not_eq_true',decide_eq_true_eq,jy]at h1 h⊢
   obtain⟨h1,rfl,rfl⟩:=h1
   rw[bnd_at _ (tab_back lm bs q more h1 trivial hq h)]
   rfl
  ·
   rename_i e1
   rw[if_neg e1]at h⊢
   rw[if_neg e1]
   split at h1
   ·
    rename_i e
    rw[if_pos e]at h⊢
    rw[if_pos e]
    simp only[cat,zp,zt,Bool.not_eq_true',decide_eq_true_eq,jy]at h1 h⊢
    obtain⟨h1,rfl,rfl⟩:=h1
    rw[bnd_at _ (lim_back lm bs q more h1 trivial hq h)]
    rfl
   ·
    rename_i e2
    rw[if_neg e2]at h⊢
    rw[if_neg e2]
    split at h1
    ·
     rename_i e
     rw[if_pos e]at h⊢
     simp only[cat,zp,zt,decide_eq_true_eq,jy]at h1 h⊢
     obtain⟨h1,-,rfl⟩:=h1
     rw[bnd_at _ (type_back ty bs q _ h1 trivial hq h),bnd_at _ (flag_back mu bs _ _ rfl trivial (drop_len hq h) (drop_next h))]
     simp[ret]
     omega
    ·cases h1
theorem imp_got(a b:ByteArray)(k:Int)(hk:0<=k/\k<=3)(bs:List UInt8)(q:Nat)(i:Im)(q':Nat)(hq:q<=bs.length)(h:gImp a b k bs q=some (i,q')):
  i.md=a/\i.nm=b/\i.kd=k/\(pImp i).2=true/\q+(pImp i).1.length<=q'/\q'<=bs.length:=by
 unfold gImp at h
 split at h
 ·
  rename_i e
  obtain⟨t,p1,h1,h2⟩:=bnd_some h
  obtain⟨a1,-,a3,a4⟩:=num_got bs q t p1 hq h1
  obtain⟨rfl,rfl⟩:=ret_some h2
  simp only[pImp,if_pos e]
  exact⟨trivial,trivial,trivial,by simp[cat,a1],by simpa[cat]using a3,a4⟩
 ·
  rename_i e0
  split at h
  ·
   rename_i e
   obtain⟨t,p1,h1,h2⟩:=bnd_some h
   obtain⟨a1,-,a3,a4⟩:=tab_got bs q t p1 hq h1
   obtain⟨rfl,rfl⟩:=ret_some h2
   simp only[pImp,if_neg e0,if_pos e]
   exact⟨trivial,trivial,trivial,by simp[cat,a1],by simpa[cat]using a3,a4⟩
  ·
   rename_i e1
   split at h
   ·
    rename_i e
    obtain⟨t,p1,h1,h2⟩:=bnd_some h
    obtain⟨a1,-,a3,a4⟩:=lim_got bs q t p1 hq h1
    obtain⟨rfl,rfl⟩:=ret_some h2
    simp only[pImp,if_neg e0,if_neg e1,if_pos e]
    exact⟨trivial,trivial,trivial,by simp[cat,a1],by simpa[cat]using a3,a4⟩
   ·
    rename_i e2
    have e:k=3:=by omega
    obtain⟨t,p1,h1,h2⟩:=bnd_some h
    obtain⟨a1,-,a3,a4⟩:=type_got bs q t p1 hq h1
    obtain⟨u,p2,h3,h4⟩:=bnd_some h2
    obtain⟨b1,-,b3,b4⟩:=flag_got bs p1 u p2 a4 h3
    obtain⟨rfl,rfl⟩:=ret_some h4
    simp only[pImp,if_neg e0,if_neg e1,if_neg e2,if_pos e]
    exact⟨trivial,trivial,trivial,by simp[cat,a1,pFlag],by simp[cat]at b3⊢;omega,b4⟩
theorem im_back:Back pIm sIm gIm:=by
 intro x bs q more h1 h2 hq h
 unfold pIm cat at h1 h⊢
 simp only[zp,zt]at h1 h
 unfold gIm
 have g1:=drop_next h
 have q1:=drop_len hq h
 have g2:=drop_next g1
 have q2:=drop_len q1 g1
 have g3:=drop_next g2
 have q3:=drop_len q2 g2
 rw[bnd_at _ (name_back x.md bs q _ h1.1 h2.1 hq h),bnd_at _ (name_back x.nm bs _ _ h1.2.1 h2.2 q1 g1),bnd_at _ (kind_back x.kd bs _ _ h1.2.2.1 trivial q2 g2),imp_back x bs _ _ h1.2.2.2 q3 g3]
 simp
 omega
theorem im_got:Got pIm sIm gIm:=by
 intro bs q x q' hq h
 obtain⟨a,p1,h1,h2⟩:=bnd_some h
 obtain⟨a1,a2,a3,a4⟩:=name_got bs q a p1 hq h1
 obtain⟨b,p2,h3,h4⟩:=bnd_some h2
 obtain⟨b1,b2,b3,b4⟩:=name_got bs p1 b p2 a4 h3
 obtain⟨k,p3,h5,h6⟩:=bnd_some h4
 obtain⟨c1,-,c3,c4⟩:=kind_got bs p2 k p3 b4 h5
 obtain⟨rfl,rfl,rfl,d1,d3,d4⟩:=imp_got a b k (by simpa[pKind]using c1) bs p3 x q' c4 h6
 exact⟨by simp[pIm,cat,a1,b1,c1,d1],⟨a2,b2⟩,by simp[pIm,cat];omega,d4⟩
def pGl(x:Int×Bool×Nd):Pc:=cat (pType x.1) (cat (pFlag x.2.1) (pOne x.2.2))
def sGl(x:Int×Bool×Nd):Prop:=sOne x.2.2
def gGl:Rd (Int×Bool×Nd):=bnd gType λt=>bnd gFlag λu=>bnd gOne λn=>ret (t,u,n)
theorem gl_back:Back pGl sGl gGl:=by
 intro x bs q more h1 h2 hq h
 unfold pGl cat at h1 h⊢
 simp only[zp,zt]at h1 h
 unfold gGl
 have g1:=drop_next h
 have q1:=drop_len hq h
 have g2:=drop_next g1
 have q2:=drop_len q1 g1
 rw[bnd_at _ (type_back x.1 bs q _ h1.1 trivial hq h),bnd_at _ (flag_back x.2.1 bs _ _ rfl trivial q1 g1),bnd_at _ (one_back x.2.2 bs _ _ h1.2.2 h2 q2 g2)]
 simp[ret]
 omega
theorem gl_got:Got pGl sGl gGl:=by
 intro bs q x q' hq h
 obtain⟨a,p1,h1,h2⟩:=bnd_some h
 obtain⟨a1,a2,a3,a4⟩:=type_got bs q a p1 hq h1
 obtain⟨b,p2,h3,h4⟩:=bnd_some h2
 obtain⟨b1,b2,b3,b4⟩:=flag_got bs p1 b p2 a4 h3
 obtain⟨c,p3,h5,h6⟩:=bnd_some h4
 obtain⟨c1,c2,c3,c4⟩:=one_got bs p2 c p3 b4 h5
 obtain⟨rfl,rfl⟩:=ret_some h6
 exact⟨by simp[pGl,cat,a1,b1,c1],c2,by simp[pGl,cat];omega,c4⟩
def pEx(x:Ex):Pc:=cat (pName x.nm) (cat (pKind x.kd) (pNum x.ix))
def sEx(x:Ex):Prop:=sName x.nm
def gEx:Rd Ex:=bnd gName λa=>bnd gKind λk=>bnd gNum λn=>ret ⟨a,k,n⟩
theorem ex_back:Back pEx sEx gEx:=by
 intro x bs q more h1 h2 hq h
 unfold pEx cat at h1 h⊢
 simp only[zp,zt]at h1 h
 unfold gEx
 have g1:=drop_next h
 have q1:=drop_len hq h
 have g2:=drop_next g1
 have q2:=drop_len q1 g1
 rw[bnd_at _ (name_back x.nm bs q _ h1.1 h2 hq h),bnd_at _ (kind_back x.kd bs _ _ h1.2.1 trivial q1 g1),bnd_at _ (num_back x.ix bs _ _ h1.2.2 trivial q2 g2)]
 simp[ret]
 omega
theorem ex_got:Got pEx sEx gEx:=by
 intro bs q x q' hq h
 obtain⟨a,p1,h1,h2⟩:=bnd_some h
 obtain⟨a1,a2,a3,a4⟩:=name_got bs q a p1 hq h1
 obtain⟨b,p2,h3,h4⟩:=bnd_some h2
 obtain⟨b1,b2,b3,b4⟩:=kind_got bs p1 b p2 a4 h3
 obtain⟨c,p3,h5,h6⟩:=bnd_some h4
 obtain⟨c1,c2,c3,c4⟩:=num_got bs p2 c p3 b4 h5
 obtain⟨rfl,rfl⟩:=ret_some h6
 exact⟨by simp[pEx,cat,a1,b1,c1],a2,by simp[pEx,cat];omega,c4⟩
def pEl(x:Nd×List Int):Pc:=cat (pNum 0) (cat (pOne x.1) (pList pNum x.2))
def sEl(x:Nd×List Int):Prop:=sOne x.1/\x.2.length<=64
def gEl:Rd (Nd×List Int):=bnd gZero λ_=>bnd gOne λn=>bnd (gList 64 gNum) λl=>ret (n,l)
theorem el_back:Back pEl sEl gEl:=by
 intro x bs q more h1 h2 hq h
 unfold pEl cat at h1 h⊢
 simp only[zp,zt]at h1 h
 unfold gEl
 have g1:=drop_next h
 have q1:=drop_len hq h
 have g2:=drop_next g1
 have q2:=drop_len q1 g1
 rw[bnd_at _ (zero_back () bs q _ rfl trivial hq h),bnd_at _ (one_back x.1 bs _ _ h1.2.1 h2.1 q1 g1),bnd_at _ (list_back num_back 64 x.2 bs _ _ h1.2.2 ⟨h2.2,λ_ _=>trivial⟩ q2 g2)]
 simp[ret]
 omega
theorem el_got:Got pEl sEl gEl:=by
 intro bs q x q' hq h
 obtain⟨a,p1,h1,h2⟩:=bnd_some h
 obtain⟨a1,a2,a3,a4⟩:=zero_got bs q a p1 hq h1
 obtain⟨b,p2,h3,h4⟩:=bnd_some h2
 obtain⟨b1,b2,b3,b4⟩:=one_got bs p1 b p2 a4 h3
 obtain⟨c,p3,h5,h6⟩:=bnd_some h4
 obtain⟨c1,c2,c3,c4⟩:=list_got num_got 64 bs p2 c p3 b4 h5
 obtain⟨rfl,rfl⟩:=ret_some h6
 exact⟨by simp only[pEl,cat,zp];exact⟨a1,b1,c1⟩,⟨b2,c2.1⟩,by simp[pEl,cat]at a3⊢;omega,c4⟩
def pDa(x:Nd×List UInt8):Pc:=cat (pNum 0) (cat (pOne x.1) (pBytes x.2))
def sDa(x:Nd×List UInt8):Prop:=sOne x.1/\x.2.length<=4096
def gDa:Rd (Nd×List UInt8):=bnd gZero λ_=>bnd gOne λn=>bnd (gList 4096 gByte) λl=>ret (n,l)
theorem da_back:Back pDa sDa gDa:=by
 intro x bs q more h1 h2 hq h
 unfold pDa cat at h1 h⊢
 simp only[zp,zt]at h1 h
 unfold gDa
 have g1:=drop_next h
 have q1:=drop_len hq h
 have g2:=drop_next g1
 have q2:=drop_len q1 g1
 rw[<-pBytes_eq]at h1 g2⊢
 rw[bnd_at _ (zero_back () bs q _ rfl trivial hq h),bnd_at _ (one_back x.1 bs _ _ h1.2.1 h2.1 q1 g1),bnd_at _ (list_back byte_back 4096 x.2 bs _ _ h1.2.2 ⟨h2.2,λ_ _=>trivial⟩ q2 g2)]
 simp[ret]
 omega
theorem da_got:Got pDa sDa gDa:=by
 intro bs q x q' hq h
 obtain⟨a,p1,h1,h2⟩:=bnd_some h
 obtain⟨a1,a2,a3,a4⟩:=zero_got bs q a p1 hq h1
 obtain⟨b,p2,h3,h4⟩:=bnd_some h2
 obtain⟨b1,b2,b3,b4⟩:=one_got bs p1 b p2 a4 h3
 obtain⟨c,p3,h5,h6⟩:=bnd_some h4
 obtain⟨c1,c2,c3,c4⟩:=list_got byte_got 4096 bs p2 c p3 b4 h5
 obtain⟨rfl,rfl⟩:=ret_some h6
 rw[pBytes_eq]at c1 c3
 exact⟨by simp only[pDa,cat,zp];exact⟨a1,b1,c1⟩,⟨b2,c2.1⟩,by simp[pDa,cat]at a3⊢;omega,c4⟩
def part{α:Type}(n:Nat)(g:Rd α):Rd α:=λbs p=>if p+n<=bs.length then match g (bs.take (p+n)) p with
  |some x=>if x.2=p+n then some x else none
  |none=>none
 else none
theorem part_back{α:Type}{p:α->Pc}{s:α->Prop}{g:Rd α}(H:Back p s g)(x:α)(bs:List UInt8)(q:Nat)(more:List UInt8)(h1:(p x).2=true)(h2:s x)(hq:q<=bs.length)(h:bs.drop q=(p x).1++more):part (p x).1.length g bs q=some (x,q+(p x).1.length):=by
 have hl:=drop_len hq h
 unfold part
 rw[if_pos hl,H x (bs.take (q+(p x).1.length)) q [] h1 h2 (by simp;omega) (by rw[List.drop_take,h,Nat.add_sub_cancel_left,List.take_left];simp)]
 simp
theorem part_got{α:Type}{p:α->Pc}{s:α->Prop}{g:Rd α}(H:Got p s g)(n:Nat)(bs:List UInt8)(q:Nat)(x:α)(q':Nat)(hq:q<=bs.length)(h:part n g bs q=some (x,q')):(p x).2=true/\s x/\(p x).1.length<=n/\q'=q+n/\q'<=bs.length:=by
 unfold part at h
 split at h
 ·
  rename_i hl
  split at h
  ·
   rename_i y hy
   split at h
   ·
    rename_i e
    injection h with h
    subst h
    dsimp only at e
    obtain⟨a1,a2,a3,a4⟩:=H _ q x q' (by simp;omega) hy
    exact⟨a1,a2,by omega,e,by omega⟩
   ·cases h
  ·cases h
 ·cases h
def pCode(x:List Int×Fo):Pc:=cat (pLoc x.1) (pExpr x.2)
def sCode(x:List Int×Fo):Prop:=sLoc x.1/\sX x.2
def gCode:Rd (List Int×Fo):=bnd gLoc λa=>bnd gExpr λf=>ret (a,f)
theorem code_back:Back pCode sCode gCode:=by
 intro x bs q more h1 h2 hq h
 unfold pCode cat at h1 h⊢
 simp only[zp,zt]at h1 h
 unfold gCode
 rw[bnd_at _ (loc_back x.1 bs q _ h1.1 h2.1 hq h),bnd_at _ (expr_back x.2 bs _ _ h1.2 h2.2 (drop_len hq h) (drop_next h))]
 simp[ret]
 omega
theorem code_got:Got pCode sCode gCode:=by
 intro bs q x q' hq h
 obtain⟨a,p1,h1,h2⟩:=bnd_some h
 obtain⟨a1,a2,a3,a4⟩:=loc_got bs q a p1 hq h1
 obtain⟨b,p2,h3,h4⟩:=bnd_some h2
 obtain⟨b1,b2,b3,b4⟩:=expr_got bs p1 b p2 a4 h3
 obtain⟨rfl,rfl⟩:=ret_some h4
 exact⟨by simp[pCode,cat,a1,b1],⟨a2,b2⟩,by simp[pCode,cat];omega,b4⟩
def pFn(x:List Int×Fo):Pc:=((pBytes (pCode x).1).1,(pBytes (pCode x).1).2&&(pCode x).2)
def gFn:Rd (List Int×Fo):=bnd gNum λn=>part n.toNat gCode
theorem fn_back:Back pFn sCode gFn:=by
 intro x bs q more h1 h2 hq h
 unfold pFn pBytes cat at h1 h⊢
 simp only[zp,zt,and_true]at h1 h
 unfold gFn
 rw[bnd_at _ (num_back _ bs q _ h1.1 trivial hq h),xn,part_back code_back x bs _ more h1.2 h2 (drop_len hq h) (drop_next h)]
 simp
 omega
theorem putU_mono:∀(n a b:Nat),b<=n->a<=b->(putU a).length<=(putU b).length
 |n,a,b,hn,h=>by
  by_cases hb:b<128
  ·rw[putU_small hb,putU_small (by omega)];simp
  ·
   rw[putU_big hb]
   by_cases ha:a<128
   ·rw[putU_small ha];simp
   ·
    rw[putU_big ha]
    have:=putU_mono (n-1) (a / 128) (b / 128) (by omega) (by omega)
    simpa using this
termination_by n _ _ _ _=>n
decreasing_by omega
theorem eN_mono{a b:Int}(ha:0<=a)(h:a<=b)(hb:num32 b=true):num32 a=true/\(eN a).length<=(eN b).length:=by
 have ha':num32 a=true:=by simp[num32]at hb⊢;omega
 rw[(eN_of ha').1,(eN_of hb).1]
 exact⟨ha',putU_mono _ _ _ (zq _) (by omega)⟩
theorem fn_got:Got pFn sCode gFn:=by
 intro bs q x q' hq h
 obtain⟨n,p1,h1,h2⟩:=bnd_some h
 obtain⟨a1,-,a3,a4⟩:=num_got bs q n p1 hq h1
 obtain⟨b1,b2,b3,b4,b5⟩:=part_got code_got _ bs p1 x q' a4 h2
 have hn0:0<=n:=by simp[pNum,num32]at a1;omega
 obtain⟨c1,c2⟩:=eN_mono (a:=((pCode x).1.length:Int)) (by omega) (by omega) a1
 have a3':q+(eN n).length<=p1:=a3
 exact⟨by simp[pFn,pBytes,cat,pNum,c1,b1],b2,by simp only[pFn,pBytes,cat,pNum,zz];omega,b5⟩
def pCu(x:ByteArray×List UInt8):Pc:=cat (pName x.1) (x.2,true)
def sCu(x:ByteArray×List UInt8):Prop:=sName x.1/\x.2.length<=4096
def gCu(n:Nat):Rd (ByteArray×List UInt8):=bnd gName λa=>λbs q=>if bs.length-q<=4096/\n≠64 then some ((a,bs.drop q),bs.length)else none
theorem cu_back(n:Nat)(hn:n≠64)(x:ByteArray×List UInt8)(bs:List UInt8)(q:Nat)(h1:(pCu x).2=true)(h2:sCu x)(hq:q<=bs.length)(h:bs.drop q=(pCu x).1):gCu n bs q=some (x,q+(pCu x).1.length):=by
 unfold pCu cat at h1 h⊢
 simp only[zp]at h1 h
 unfold gCu
 have h3:=drop_next h
 have h4:=drop_len hq h
 rw[bnd_at _ (name_back x.1 bs q _ h1.1 h2.1 hq h)]
 dsimp only
 have e:=congrArg List.length h3
 rw[qc]at e
 rw[if_pos ⟨by have:=h2.2;omega,hn⟩,h3]
 simp
 omega
theorem cu_got(n:Nat)(bs:List UInt8)(q:Nat)(x:ByteArray×List UInt8)(q':Nat)(hq:q<=bs.length)(h:gCu n bs q=some (x,q')):(pCu x).2=true/\sCu x/\q+(pCu x).1.length<=q'/\q'<=bs.length/\n≠64:=by
 obtain⟨a,p1,h1,h2⟩:=bnd_some h
 obtain⟨a1,a2,a3,a4⟩:=name_got bs q a p1 hq h1
 split at h2
 ·
  rename_i hc
  simp at h2
  obtain⟨rfl,rfl⟩:=h2
  exact⟨by simp[pCu,cat,a1],⟨a2,by simp;omega⟩,by simp[pCu,cat];omega,zq _,hc.2⟩
 ·cases h2
end Go.Proofs.YteoijlfipmaoeaaGreatDoor.Bin
namespace Go.Proofs.YteoijlfipmaoeaaGreatDoor.Bin
open Leb Trx
structure Dm where
 ty:List (List Int×List Int)
 im:List Im
 ft:List Int
 ta:List Lm
 me:List Lm
 gl:List (Int×Bool×Nd)
 ex:List Ex
 st:Int
 el:List (Nd×List Int)
 fn:List (List Int×Fo)
 da:List (Nd×List UInt8)
 cu:List (ByteArray×List UInt8)
def d0:Dm:=⟨[],[],[],[],[],[],[],-1,[],[],[],[]⟩
def ofK(m:KeyM):Dm:=⟨m.ty,m.im,m.fn.map (·.1),m.ta,m.me,m.gl,m.ex,m.st,m.el,m.fn.map (·.2),m.da,m.cu⟩
def toK(d:Dm):KeyM:=⟨d.st,d.ty,d.im,d.ft.zip d.fn,d.ta,d.me,d.gl,d.ex,d.el,d.da,d.cu⟩
theorem zip_maps{α β:Type}(l:List (α×β)):(l.map (·.1)).zip (l.map (·.2))=l:=by
 induction l with
 |nil=>rfl
 |cons x l ih=>simp[ih]
theorem toK_ofK(m:KeyM):toK (ofK m)=m:=by
 unfold toK ofK
 simp only[zip_maps]
theorem ofK_toK(d:Dm)(h:d.ft.length=d.fn.length):ofK (toK d)=d:=by
 unfold toK ofK
 have e1:(d.ft.zip d.fn).map (·.1)=d.ft:=List.map_fst_zip (by omega)
 have e2:(d.ft.zip d.fn).map (·.2)=d.fn:=List.map_snd_zip (by omega)
 simp only[e1,e2]
def opt{α:Type}(id:Int)(p:α->Pc)(l:List α):List (Int×List UInt8):=if l.isEmpty then[]else[(id,(pList p l).1)]
def optS(n:Int):List (Int×List UInt8):=if n= -1 then[]else[(8,(pNum n).1)]
def secs(d:Dm):List (Int×List UInt8):=
 opt 1 pFt d.ty++(opt 2 pIm d.im++(opt 3 pNum d.ft++(opt 4 pTab d.ta++(opt 5 pLim d.me++(opt 6 pGl d.gl++(opt 7 pEx d.ex++(optS d.st++(opt 9 pEl d.el++(opt 10 pFn d.fn++(opt 11 pDa d.da++d.cu.map λc=>((0:Int),(pCu c).1)))))))))))
structure okD(d:Dm):Prop where
 ty:(pList pFt d.ty).2=true
 im:(pList pIm d.im).2=true
 ft:(pList pNum d.ft).2=true
 ta:(pList pTab d.ta).2=true
 me:(pList pLim d.me).2=true
 gl:(pList pGl d.gl).2=true
 ex:(pList pEx d.ex).2=true
 st:d.st= -1\/num32 d.st=true
 el:(pList pEl d.el).2=true
 fn:(pList pFn d.fn).2=true
 da:(pList pDa d.da).2=true
 cu:∀c∈d.cu,(pCu c).2=true
structure smD(d:Dm):Prop where
 ty:sL 64 sFt d.ty
 im:sL 64 sIm d.im
 ft:d.ft.length<=64
 ta:d.ta.length<=64
 me:d.me.length<=64
 gl:sL 64 sGl d.gl
 ex:sL 64 sEx d.ex
 el:sL 64 sEl d.el
 fn:sL 64 sCode d.fn
 da:sL 64 sDa d.da
 cu:sL 64 sCu d.cu
def encD(d:Dm):List UInt8:=Sect.magic++Sect.encL (secs d)
def rdS(id:Int)(d:Dm):Rd Dm:=
 if id=0 then bnd (gCu d.cu.length) λx=>ret {d with cu:=d.cu++[x]}
 else if id=1 then bnd (gList 64 gFt) λx=>ret {d with ty:=x}
 else if id=2 then bnd (gList 64 gIm) λx=>ret {d with im:=x}
 else if id=3 then bnd (gList 64 gNum) λx=>ret {d with ft:=x}
 else if id=4 then bnd (gList 64 gTab) λx=>ret {d with ta:=x}
 else if id=5 then bnd (gList 64 gLim) λx=>ret {d with me:=x}
 else if id=6 then bnd (gList 64 gGl) λx=>ret {d with gl:=x}
 else if id=7 then bnd (gList 64 gEx) λx=>ret {d with ex:=x}
 else if id=8 then bnd gNum λx=>ret {d with st:=x}
 else if id=9 then bnd (gList 64 gEl) λx=>ret {d with el:=x}
 else if id=10 then bnd (gList 64 gFn) λx=>ret {d with fn:=x}
 else if id=11 then bnd (gList 64 gDa) λx=>ret {d with da:=x}
 else fl
def stepS(bs:List UInt8)(d:Dm)(s:Sect.Pt):Option Dm:=match rdS s.id d (bs.take (s.at_+s.bs.length)) s.at_ with
 |none=>none
 |some x=>if x.2=s.at_+s.bs.length then some x.1 else none
def runS(bs:List UInt8):Dm->List Sect.Pt->Option Dm
 |d,[]=>some d
 |d,s::r=>match stepS bs d s with
  |none=>none
  |some d'=>runS bs d' r
def decD(bs:List UInt8):Option Dm:=match Sect.split bs with
 |.error _=>none
 |.ok t=>match runS bs d0 t with
  |none=>none
  |some d=>if d.ft.length=d.fn.length then some d else none
theorem runS_append(bs:List UInt8):∀(a b:List Sect.Pt) (d:Dm),runS bs d (a++b)=match runS bs d a with
  |none=>none
  |some d'=>runS bs d' b
 | [],_,_=>rfl
 |s::a,b,d=>by
  rw[zi,runS,runS]
  cases stepS bs d s with
  |none=>rfl
  |some d'=>exact runS_append bs a b d'
def Placed(bs:List UInt8)(s:Sect.Pt):Prop:=s.at_+s.bs.length<=bs.length/\(bs.take (s.at_+s.bs.length)).drop s.at_=s.bs
theorem placed_of{bs:List UInt8}{at_:Nat}{b more:List UInt8}{i:Int}(h:bs.drop at_=b++more)(hq:at_<=bs.length):Placed bs ⟨i,at_,b⟩:=
 ⟨drop_len hq h,by rw[List.drop_take,h];simp⟩
theorem pts_placed:∀(l:List (Int×List UInt8)) (bs more:List UInt8) (p:Nat),p<=bs.length->bs.drop p=Sect.encL l++more->∀s∈Sect.pts p l,Placed bs s
 | [],_,_,_,_,_,s,hs=>by simp[Sect.pts]at hs
 |x::r,bs,more,p,hp,h,s,hs=>by
  rw[Sect.encL_cons,zt]at h
  rw[Sect.pts,List.mem_cons]at hs
  rcases hs with rfl|hs
  ·
   unfold Sect.encS at h
   have e:bs.drop p=(UInt8.ofNat x.1.toNat::putU x.2.length)++(x.2++(Sect.encL r++more)):=by rw[h];simp
   have h2:=drop_next e
   have h3:=drop_len hp e
   rw[zl]at h2 h3
   have e2:p+((putU x.2.length).length+1)=p+1+(putU x.2.length).length:=by omega
   rw[e2]at h2 h3
   exact placed_of h2 h3
  ·exact pts_placed r bs more _ (drop_len hp h) (drop_next h) s hs
theorem spl_placed:∀(N:Nat) (bs l:List UInt8) (p:Nat) (hi:Int) (n:Nat) (t:List Sect.Pt),l.length<=N->p<=bs.length->bs.drop p=l->Sect.spl l p hi n=.ok t->∀s∈t,Placed bs s
 |_,_,[],p,hi,n,t,_,_,_,h,s,hs=>by
  rw[Sect.spl_nil]at h
  injection h with h
  subst h
  simp at hs
 |0,_,_::_,_,_,_,_,hl,_,_,_,_,_=>by simp at hl
 |N+1,bs,x::r,p,hi,n,t,hl,hp,hd,h,s,hs=>by
  rw[Sect.spl_cons]at h
  split at h
  ·cases h
  split at h
  ·cases h
  split at h
  ·cases h
  rename_i k j hu
  split at h
  ·cases h
  rename_i hk
  cases hs2:Sect.spl (r.drop (j+k)) (p+1+j+k) (max hi x.toNat) (n+1)with
  |error e=>rw[hs2]at h;cases h
  |ok u=>
   rw[hs2]at h
   injection h with h
   subst h
   have hr:bs.drop (p+1)=r:=by rw[<-jd,hd];rfl
   have hj:=uOf_le _ _ _ _ _ hu
   have hlr:p+1+r.length=bs.length:=by
    have:=congrArg List.length hd
    rw[qc,zl]at this
    omega
   rcases List.mem_append.1 hs with h1|h1
   ·
    simp at h1
    subst h1
    refine placed_of (more:=(r.drop j).drop k) ?_ (by omega)
    rw[jw,<-jd,hr]
   ·exact spl_placed N bs _ _ _ _ u (by simp at hl⊢;omega) (by omega) (by rw[<-hr,jd];congr 1;omega) hs2 s h1
theorem stepS_of{bs:List UInt8}{d:Dm}{s:Sect.Pt}{α:Type}{g:Rd α}{f:α->Dm}{x:α}(hr:rdS s.id d=bnd g λx=>ret (f x))(hp:Placed bs s)(hg:∀bs' q,q<=bs'.length->bs'.drop q=s.bs->g bs' q=some (x,q+s.bs.length)):stepS bs d s=some (f x):=by
 unfold stepS
 rw[hr,bnd_at _ (hg _ _ (by have:=hp.1;simp;omega) hp.2)]
 simp[ret]
theorem opt_back{bs:List UInt8}{d:Dm}{α:Type}{p:α->Pc}{s:α->Prop}{g:Rd α}(H:Back p s g)(id:Int)(f:List α->Dm)(l:List α)(q:Nat)(hr:rdS id d=bnd (gList 64 g) λx=>ret (f x))(h0:f []=d)
  (hp:∀t∈Sect.pts q (opt id p l),Placed bs t) (h1:(pList p l).2=true) (h2:sL 64 s l):runS bs d (Sect.pts q (opt id p l))=some (f l):=by
 cases l with
 |nil=>rw[h0];rfl
 |cons x l=>
  have e:opt id p (x::l)=[(id,(pList p (x::l)).1)]:=rfl
  rw[e]at hp⊢
  rw[Sect.pts,Sect.pts,runS,stepS_of (g:=gList 64 g) (x:=x::l) hr (hp _ (by rw[Sect.pts];simp)) (λbs' q' hq h=>list_back H 64 (x::l) bs' q' [] h1 h2 hq (by simpa using h))]
  rfl
theorem optS_back{bs:List UInt8}{d:Dm}(n:Int)(q:Nat)(h0:d.st= -1)(hp:∀t∈Sect.pts q (optS n),Placed bs t)(h1:n= -1\/num32 n=true):runS bs d (Sect.pts q (optS n))=some {d with st:=n}:=by
 by_cases hn:n= -1
 ·
  subst hn
  rw[<-h0]
  have e:optS d.st=[]:=by unfold optS;rw[if_pos h0]
  rw[e]
  rfl
 ·
  have e:optS n=[(8,(pNum n).1)]:=by unfold optS;rw[if_neg hn]
  rw[e]at hp⊢
  rw[Sect.pts,Sect.pts,runS,stepS_of (g:=gNum) (f:=λx=>{d with st:=x}) (x:=n) rfl (hp _ (by rw[Sect.pts];simp)) (λbs' q' hq h=>num_back n bs' q' [] (h1.resolve_left hn) trivial hq (by simpa using h))]
  rfl
theorem cus_back{bs:List UInt8}:∀(l:List (ByteArray×List UInt8)) (d:Dm) (q:Nat),(∀t∈Sect.pts q (l.map λc=>((0:Int),(pCu c).1)),Placed bs t)->(∀c∈l,(pCu c).2=true)->(∀c∈l,sCu c)->d.cu.length+l.length<=64->
  runS bs d (Sect.pts q (l.map λc=>((0:Int),(pCu c).1)))=some {d with cu:=d.cu++l}
 | [],d,q,_,_,_,_=>by simp[Sect.pts,runS]
 |c::l,d,q,hp,h1,h2,h3=>by
  rw[qu,Sect.pts]at hp⊢
  rw[xk]at hp h1 h2
  simp at h3
  rw[runS,stepS_of (g:=gCu d.cu.length) (f:=λx=>{d with cu:=d.cu++[x]}) (x:=c) rfl hp.1 (λbs' q' hq h=>cu_back _ (by omega) c bs' q' h1.1 h2.1 hq h)]
  dsimp only
  rw[cus_back l _ _ hp.2 h1.2 h2.2 (by simp;omega)]
  simp
theorem pts_append:∀(a b:List (Int×List UInt8)) (p:Nat),Sect.pts p (a++b)=Sect.pts p a++Sect.pts (p+(Sect.encL a).length) b
 | [],b,p=>by simp[Sect.pts,Sect.encL]
 |x::a,b,p=>by
  rw[zi,Sect.pts,Sect.pts,pts_append a b,zi,Sect.encL_cons,zz,<-ju]
theorem run_back{bs:List UInt8}(d:Dm)(q:Nat)(h1:okD d)(h2:smD d)(hp:∀t∈Sect.pts q (secs d),Placed bs t):runS bs d0 (Sect.pts q (secs d))=some d:=by
 obtain⟨ty,im,ft,ta,me,gl,ex,st,el,fn,da,cu⟩:=d
 unfold secs at hp⊢
 dsimp only at hp⊢
 simp only[pts_append,List.forall_mem_append]at hp
 obtain⟨p1,p2,p3,p4,p5,p6,p7,p8,p9,p10,p11,p12⟩:=hp
 simp only[pts_append,runS_append]
 rw[opt_back (d:=d0) ft_back 1 (λx=>⟨x,[],[],[],[],[],[],-1,[],[],[],[]⟩) ty _ rfl rfl p1 h1.ty h2.ty]
 dsimp only
 rw[opt_back im_back 2 (λx=>⟨ty,x,[],[],[],[],[],-1,[],[],[],[]⟩) im _ rfl rfl p2 h1.im h2.im]
 dsimp only
 rw[opt_back num_back 3 (λx=>⟨ty,im,x,[],[],[],[],-1,[],[],[],[]⟩) ft _ rfl rfl p3 h1.ft ⟨h2.ft,λ_ _=>trivial⟩]
 dsimp only
 rw[opt_back tab_back 4 (λx=>⟨ty,im,ft,x,[],[],[],-1,[],[],[],[]⟩) ta _ rfl rfl p4 h1.ta ⟨h2.ta,λ_ _=>trivial⟩]
 dsimp only
 rw[opt_back lim_back 5 (λx=>⟨ty,im,ft,ta,x,[],[],-1,[],[],[],[]⟩) me _ rfl rfl p5 h1.me ⟨h2.me,λ_ _=>trivial⟩]
 dsimp only
 rw[opt_back gl_back 6 (λx=>⟨ty,im,ft,ta,me,x,[],-1,[],[],[],[]⟩) gl _ rfl rfl p6 h1.gl h2.gl]
 dsimp only
 rw[opt_back ex_back 7 (λx=>⟨ty,im,ft,ta,me,gl,x,-1,[],[],[],[]⟩) ex _ rfl rfl p7 h1.ex h2.ex]
 dsimp only
 rw[optS_back st _ rfl p8 h1.st]
 dsimp only
 rw[opt_back el_back 9 (λx=>⟨ty,im,ft,ta,me,gl,ex,st,x,[],[],[]⟩) el _ rfl rfl p9 h1.el h2.el]
 dsimp only
 rw[opt_back fn_back 10 (λx=>⟨ty,im,ft,ta,me,gl,ex,st,el,x,[],[]⟩) fn _ rfl rfl p10 h1.fn h2.fn]
 dsimp only
 rw[opt_back da_back 11 (λx=>⟨ty,im,ft,ta,me,gl,ex,st,el,fn,x,[]⟩) da _ rfl rfl p11 h1.da h2.da]
 dsimp only
 rw[cus_back cu _ _ p12 h1.cu h2.cu.2 (by have:=h2.cu.1;simpa using this)]
 rfl
theorem opt_ids{α:Type}(id:Int)(p:α->Pc)(l:List α):((opt id p l).map (·.1)=[]\/(opt id p l).map (·.1)=[id])/\(opt id p l).length<=1:=by
 unfold opt
 split<;>simp
theorem optS_ids(n:Int):((optS n).map (·.1)=[]\/(optS n).map (·.1)=[8])/\(optS n).length<=1:=by
 unfold optS
 split<;>simp
theorem rise_some{id hi:Int}{a r:List Int}(ha:a=[]\/a=[id])(h0:0<=hi)(h1:hi<id)(h2:id<=11)(hr:∀hi',hi<=hi'->hi'<=id->Sect.rise hi' r=true):Sect.rise hi (a++r)=true:=by
 rcases ha with rfl|rfl
 ·exact hr hi (Int.le_refl _) (Int.le_of_lt h1)
 ·
  show(Sect.fol id hi&&Sect.rise (max hi id) r)=true
  rw[hr (max hi id) (by omega) (by omega)]
  simp[Sect.fol]
  omega
theorem rise_cus{α:Type}(l:List α):∀(hi:Int) (f:α->List UInt8),0<=hi->Sect.rise hi ((l.map λc=>((0:Int),f c)).map (·.1))=true:=by
 induction l with
 |nil=>intro hi f _;rfl
 |cons c l ih=>
  intro hi f h
  show(Sect.fol 0 hi&&Sect.rise (max hi 0) _)=true
  rw[ih _ f (by omega)]
  simp[Sect.fol]
theorem secs_rise(d:Dm):Sect.rise 0 ((secs d).map (·.1))=true:=by
 unfold secs
 simp only[qd]
 refine rise_some (id:=1) (opt_ids ..).1 (by omega) (by omega) (by omega) λa _ _=>?_
 refine rise_some (id:=2) (opt_ids ..).1 (by omega) (by omega) (by omega) λb _ _=>?_
 refine rise_some (id:=3) (opt_ids ..).1 (by omega) (by omega) (by omega) λc _ _=>?_
 refine rise_some (id:=4) (opt_ids ..).1 (by omega) (by omega) (by omega) λe _ _=>?_
 refine rise_some (id:=5) (opt_ids ..).1 (by omega) (by omega) (by omega) λf _ _=>?_
 refine rise_some (id:=6) (opt_ids ..).1 (by omega) (by omega) (by omega) λg _ _=>?_
 refine rise_some (id:=7) (opt_ids ..).1 (by omega) (by omega) (by omega) λh _ _=>?_
 refine rise_some (id:=8) (optS_ids _).1 (by omega) (by omega) (by omega) λi _ _=>?_
 refine rise_some (id:=9) (opt_ids ..).1 (by omega) (by omega) (by omega) λj _ _=>?_
 refine rise_some (id:=10) (opt_ids ..).1 (by omega) (by omega) (by omega) λk _ _=>?_
 refine rise_some (id:=11) (opt_ids ..).1 (by omega) (by omega) (by omega) λl _ _=>?_
 exact rise_cus d.cu _ _ (by omega)
theorem secs_len(d:Dm):(secs d).length<=11+d.cu.length:=by
 unfold secs
 simp only[zz,zd]
 have:=(opt_ids 1 pFt d.ty).2
 have:=(opt_ids 2 pIm d.im).2
 have:=(opt_ids 3 pNum d.ft).2
 have:=(opt_ids 4 pTab d.ta).2
 have:=(opt_ids 5 pLim d.me).2
 have:=(opt_ids 6 pGl d.gl).2
 have:=(opt_ids 7 pEx d.ex).2
 have:=(optS_ids d.st).2
 have:=(opt_ids 9 pEl d.el).2
 have:=(opt_ids 10 pFn d.fn).2
 have:=(opt_ids 11 pDa d.da).2
 omega
theorem encL_mem{l:List (Int×List UInt8)}{s:Int×List UInt8}(h:s∈l):s.2.length<=(Sect.encL l).length:=by
 induction l with
 |nil=>simp at h
 |cons x l ih=>
  rw[Sect.encL_cons,zz]
  rcases List.mem_cons.1 h with rfl|h
  ·rw[Sect.encS_length];omega
  ·have:=ih h;omega
theorem split_enc(d:Dm)(more:List UInt8)(h2:smD d)(hb:(encD d).length<4294967296):Sect.split (encD d++more)=Sect.pre (Sect.pts 8 (secs d)) (Sect.spl more (encD d).length (Sect.top 0 ((secs d).map (·.1))) (secs d).length):=by
 unfold Sect.split
 have e1:(encD d++more).take 8=Sect.magic:=by unfold encD;rw[zt];rfl
 have e2:(encD d++more).drop 8=Sect.encL (secs d)++more:=by unfold encD;rw[zt];rfl
 have e3:(encD d).length=8+(Sect.encL (secs d)).length:=by unfold encD;rw[zz];rfl
 rw[if_pos e1,e2,Sect.spl_enc more (secs d) 8 0 0 (secs_rise d) (by omega) (by have:=secs_len d;have:=h2.cu.1;omega) (λs hs=>by have:=encL_mem hs;omega),<-e3]
 simp
theorem enc_placed(d:Dm)(more:List UInt8):∀t∈Sect.pts 8 (secs d),Placed (encD d++more) t:=by
 refine pts_placed (secs d) _ more 8 ?_ ?_
 ·unfold encD;simp[Sect.magic]
 ·unfold encD;rw[zt];rfl
theorem dec_enc(d:Dm)(h1:okD d)(h2:smD d)(h3:d.ft.length=d.fn.length)(hb:(encD d).length<4294967296):decD (encD d)=some d:=by
 have hs:=split_enc d [] h2 hb
 rw[jy,Sect.spl_nil]at hs
 unfold decD
 rw[hs]
 simp only[Sect.pre,jy]
 have hp:=enc_placed d []
 rw[jy]at hp
 rw[run_back d 8 h1 h2 hp]
 dsimp only
 rw[if_pos h3]
theorem opt_len{α:Type}(id:Int)(p:α->Pc)(l:List α)(bs:List UInt8)(h:(pList p l).1.length<=bs.length):(Sect.encL (opt id p l)).length<=(Sect.encS (id,bs)).length:=by
 unfold opt
 split
 ·simp[Sect.encL]
 ·
  have:=putU_mono _ _ _ (zq _) h
  simp only[Sect.encL,js,List.flatMap_nil,jy,Sect.encS_length]
  omega
theorem optS_len(n:Int)(bs:List UInt8)(h:(pNum n).1.length<=bs.length):(Sect.encL (optS n)).length<=(Sect.encS (8,bs)).length:=by
 unfold optS
 split
 ·simp[Sect.encL]
 ·
  have:=putU_mono _ _ _ (zq _) h
  simp only[Sect.encL,js,List.flatMap_nil,jy,Sect.encS_length]
  omega
theorem encL_append(a b:List (Int×List UInt8)):Sect.encL (a++b)=Sect.encL a++Sect.encL b:=by simp[Sect.encL]
theorem stepS_got{bs:List UInt8}{d d':Dm}{s:Sect.Pt}(hp:Placed bs s)(h:stepS bs d s=some d')(h1:okD d)(h2:smD d):okD d'/\smD d'/\(Sect.encL (secs d')).length<=(Sect.encL (secs d)).length+(Sect.encS s.key).length:=by
 obtain⟨id,at_,b⟩:=s
 unfold stepS at h
 unfold Sect.Pt.key
 dsimp only at h⊢
 unfold Placed at hp
 dsimp only at hp
 split at h
 ·cases h
 rename_i x hx
 split at h
 rotate_left
 ·cases h
 rename_i he
 injection h with h
 obtain⟨d2,q⟩:=x
 dsimp only at h he
 subst h
 subst he
 have hq:at_<=(bs.take (at_+b.length)).length:=by have:=hp.1;simp;omega
 unfold rdS at hx
 by_cases hid:id=0
 ·
  rw[if_pos hid]at hx
  obtain⟨x,p1,g1,g2⟩:=bnd_some hx
  obtain⟨rfl,rfl⟩:=ret_some g2
  obtain⟨a1,a2,a3,a4,a5⟩:=cu_got _ _ _ _ _ hq g1
  subst hid
  refine⟨⟨h1.ty,h1.im,h1.ft,h1.ta,h1.me,h1.gl,h1.ex,h1.st,h1.el,h1.fn,h1.da,?_⟩,⟨h2.ty,h2.im,h2.ft,h2.ta,h2.me,h2.gl,h2.ex,h2.el,h2.fn,h2.da,?_⟩,?_⟩
  ·
   intro c hc
   rcases List.mem_append.1 hc with hc|hc
   ·exact h1.cu c hc
   ·simp at hc;subst hc;exact a1
  ·
   refine⟨by have:=h2.cu.1;simp;omega,λc hc=>?_⟩
   rcases List.mem_append.1 hc with hc|hc
   ·exact h2.cu.2 c hc
   ·simp at hc;subst hc;exact a2
  ·
   unfold secs
   have:=putU_mono _ _ _ (zq _) (show(pCu x).1.length<=b.length by omega)
   have e:Sect.encL ((d.cu++[x]).map λc=>((0:Int),(pCu c).1))=Sect.encL (d.cu.map λc=>((0:Int),(pCu c).1))++Sect.encS (0,(pCu x).1):=by
    rw[qd,encL_append,qu,je,Sect.encL_cons]
    simp[Sect.encL]
   simp only[encL_append,zz,e,Sect.encS_length]
   omega
 rw[if_neg hid]at hx
 clear hid
 by_cases hid:id=1
 ·
  rw[if_pos hid]at hx
  obtain⟨x,p1,g1,g2⟩:=bnd_some hx
  obtain⟨rfl,rfl⟩:=ret_some g2
  obtain⟨a1,a2,a3,a4⟩:=list_got ft_got 64 _ _ _ _ hq g1
  subst hid
  refine⟨⟨a1,h1.im,h1.ft,h1.ta,h1.me,h1.gl,h1.ex,h1.st,h1.el,h1.fn,h1.da,h1.cu⟩,⟨a2,h2.im,h2.ft,h2.ta,h2.me,h2.gl,h2.ex,h2.el,h2.fn,h2.da,h2.cu⟩,?_⟩
  have:=opt_len 1 pFt x b (by omega)
  unfold secs
  simp only[encL_append,zz]
  omega
 rw[if_neg hid]at hx
 clear hid
 by_cases hid:id=2
 ·
  rw[if_pos hid]at hx
  obtain⟨x,p1,g1,g2⟩:=bnd_some hx
  obtain⟨rfl,rfl⟩:=ret_some g2
  obtain⟨a1,a2,a3,a4⟩:=list_got im_got 64 _ _ _ _ hq g1
  subst hid
  refine⟨⟨h1.ty,a1,h1.ft,h1.ta,h1.me,h1.gl,h1.ex,h1.st,h1.el,h1.fn,h1.da,h1.cu⟩,⟨h2.ty,a2,h2.ft,h2.ta,h2.me,h2.gl,h2.ex,h2.el,h2.fn,h2.da,h2.cu⟩,?_⟩
  have:=opt_len 2 pIm x b (by omega)
  unfold secs
  simp only[encL_append,zz]
  omega
 rw[if_neg hid]at hx
 clear hid
 by_cases hid:id=3
 ·
  rw[if_pos hid]at hx
  obtain⟨x,p1,g1,g2⟩:=bnd_some hx
  obtain⟨rfl,rfl⟩:=ret_some g2
  obtain⟨a1,a2,a3,a4⟩:=list_got num_got 64 _ _ _ _ hq g1
  subst hid
  refine⟨⟨h1.ty,h1.im,a1,h1.ta,h1.me,h1.gl,h1.ex,h1.st,h1.el,h1.fn,h1.da,h1.cu⟩,⟨h2.ty,h2.im,a2.1,h2.ta,h2.me,h2.gl,h2.ex,h2.el,h2.fn,h2.da,h2.cu⟩,?_⟩
  have:=opt_len 3 pNum x b (by omega)
  unfold secs
  simp only[encL_append,zz]
  omega
 rw[if_neg hid]at hx
 clear hid
 by_cases hid:id=4
 ·
  rw[if_pos hid]at hx
  obtain⟨x,p1,g1,g2⟩:=bnd_some hx
  obtain⟨rfl,rfl⟩:=ret_some g2
  obtain⟨a1,a2,a3,a4⟩:=list_got tab_got 64 _ _ _ _ hq g1
  subst hid
  refine⟨⟨h1.ty,h1.im,h1.ft,a1,h1.me,h1.gl,h1.ex,h1.st,h1.el,h1.fn,h1.da,h1.cu⟩,⟨h2.ty,h2.im,h2.ft,a2.1,h2.me,h2.gl,h2.ex,h2.el,h2.fn,h2.da,h2.cu⟩,?_⟩
  have:=opt_len 4 pTab x b (by omega)
  unfold secs
  simp only[encL_append,zz]
  omega
 rw[if_neg hid]at hx
 clear hid
 by_cases hid:id=5
 ·
  rw[if_pos hid]at hx
  obtain⟨x,p1,g1,g2⟩:=bnd_some hx
  obtain⟨rfl,rfl⟩:=ret_some g2
  obtain⟨a1,a2,a3,a4⟩:=list_got lim_got 64 _ _ _ _ hq g1
  subst hid
  refine⟨⟨h1.ty,h1.im,h1.ft,h1.ta,a1,h1.gl,h1.ex,h1.st,h1.el,h1.fn,h1.da,h1.cu⟩,⟨h2.ty,h2.im,h2.ft,h2.ta,a2.1,h2.gl,h2.ex,h2.el,h2.fn,h2.da,h2.cu⟩,?_⟩
  have:=opt_len 5 pLim x b (by omega)
  unfold secs
  simp only[encL_append,zz]
  omega
 rw[if_neg hid]at hx
 clear hid
 by_cases hid:id=6
 ·
  rw[if_pos hid]at hx
  obtain⟨x,p1,g1,g2⟩:=bnd_some hx
  obtain⟨rfl,rfl⟩:=ret_some g2
  obtain⟨a1,a2,a3,a4⟩:=list_got gl_got 64 _ _ _ _ hq g1
  subst hid
  refine⟨⟨h1.ty,h1.im,h1.ft,h1.ta,h1.me,a1,h1.ex,h1.st,h1.el,h1.fn,h1.da,h1.cu⟩,⟨h2.ty,h2.im,h2.ft,h2.ta,h2.me,a2,h2.ex,h2.el,h2.fn,h2.da,h2.cu⟩,?_⟩
  have:=opt_len 6 pGl x b (by omega)
  unfold secs
  simp only[encL_append,zz]
  omega
 rw[if_neg hid]at hx
 clear hid
 by_cases hid:id=7
 ·
  rw[if_pos hid]at hx
  obtain⟨x,p1,g1,g2⟩:=bnd_some hx
  obtain⟨rfl,rfl⟩:=ret_some g2
  obtain⟨a1,a2,a3,a4⟩:=list_got ex_got 64 _ _ _ _ hq g1
  subst hid
  refine⟨⟨h1.ty,h1.im,h1.ft,h1.ta,h1.me,h1.gl,a1,h1.st,h1.el,h1.fn,h1.da,h1.cu⟩,⟨h2.ty,h2.im,h2.ft,h2.ta,h2.me,h2.gl,a2,h2.el,h2.fn,h2.da,h2.cu⟩,?_⟩
  have:=opt_len 7 pEx x b (by omega)
  unfold secs
  simp only[encL_append,zz]
  omega
 rw[if_neg hid]at hx
 clear hid
 by_cases hid:id=8
 ·
  rw[if_pos hid]at hx
  obtain⟨x,p1,g1,g2⟩:=bnd_some hx
  obtain⟨rfl,rfl⟩:=ret_some g2
  obtain⟨a1,a2,a3,a4⟩:=num_got _ _ _ _ hq g1
  subst hid
  refine⟨⟨h1.ty,h1.im,h1.ft,h1.ta,h1.me,h1.gl,h1.ex,.inr a1,h1.el,h1.fn,h1.da,h1.cu⟩,⟨h2.ty,h2.im,h2.ft,h2.ta,h2.me,h2.gl,h2.ex,h2.el,h2.fn,h2.da,h2.cu⟩,?_⟩
  have:=optS_len x b (by omega)
  unfold secs
  simp only[encL_append,zz]
  omega
 rw[if_neg hid]at hx
 clear hid
 by_cases hid:id=9
 ·
  rw[if_pos hid]at hx
  obtain⟨x,p1,g1,g2⟩:=bnd_some hx
  obtain⟨rfl,rfl⟩:=ret_some g2
  obtain⟨a1,a2,a3,a4⟩:=list_got el_got 64 _ _ _ _ hq g1
  subst hid
  refine⟨⟨h1.ty,h1.im,h1.ft,h1.ta,h1.me,h1.gl,h1.ex,h1.st,a1,h1.fn,h1.da,h1.cu⟩,⟨h2.ty,h2.im,h2.ft,h2.ta,h2.me,h2.gl,h2.ex,a2,h2.fn,h2.da,h2.cu⟩,?_⟩
  have:=opt_len 9 pEl x b (by omega)
  unfold secs
  simp only[encL_append,zz]
  omega
 rw[if_neg hid]at hx
 clear hid
 by_cases hid:id=10
 ·
  rw[if_pos hid]at hx
  obtain⟨x,p1,g1,g2⟩:=bnd_some hx
  obtain⟨rfl,rfl⟩:=ret_some g2
  obtain⟨a1,a2,a3,a4⟩:=list_got fn_got 64 _ _ _ _ hq g1
  subst hid
  refine⟨⟨h1.ty,h1.im,h1.ft,h1.ta,h1.me,h1.gl,h1.ex,h1.st,h1.el,a1,h1.da,h1.cu⟩,⟨h2.ty,h2.im,h2.ft,h2.ta,h2.me,h2.gl,h2.ex,h2.el,a2,h2.da,h2.cu⟩,?_⟩
  have:=opt_len 10 pFn x b (by omega)
  unfold secs
  simp only[encL_append,zz]
  omega
 rw[if_neg hid]at hx
 clear hid
 by_cases hid:id=11
 ·
  rw[if_pos hid]at hx
  obtain⟨x,p1,g1,g2⟩:=bnd_some hx
  obtain⟨rfl,rfl⟩:=ret_some g2
  obtain⟨a1,a2,a3,a4⟩:=list_got da_got 64 _ _ _ _ hq g1
  subst hid
  refine⟨⟨h1.ty,h1.im,h1.ft,h1.ta,h1.me,h1.gl,h1.ex,h1.st,h1.el,h1.fn,a1,h1.cu⟩,⟨h2.ty,h2.im,h2.ft,h2.ta,h2.me,h2.gl,h2.ex,h2.el,h2.fn,a2,h2.cu⟩,?_⟩
  have:=opt_len 11 pDa x b (by omega)
  unfold secs
  simp only[encL_append,zz]
  omega
 rw[if_neg hid]at hx
 cases hx
theorem runS_got{bs:List UInt8}:∀(t:List Sect.Pt) (d d':Dm),(∀s∈t,Placed bs s)->runS bs d t=some d'->okD d->smD d->okD d'/\smD d'/\(Sect.encL (secs d')).length<=(Sect.encL (secs d)).length+(Sect.encL (t.map Sect.Pt.key)).length
 | [],d,d',_,h,h1,h2=>by
  injection h with h
  subst h
  exact⟨h1,h2,by simp[Sect.encL]⟩
 |s::t,d,d',hp,h,h1,h2=>by
  rw[xk]at hp
  rw[runS]at h
  cases hs:stepS bs d s with
  |none=>rw[hs]at h;cases h
  |some d2=>
   rw[hs]at h
   obtain⟨a1,a2,a3⟩:=stepS_got hp.1 hs h1 h2
   obtain⟨b1,b2,b3⟩:=runS_got t d2 d' hp.2 h a1 a2
   refine⟨b1,b2,?_⟩
   rw[qu,Sect.encL_cons,zz]
   omega
theorem okD_d0:okD d0:=⟨rfl,rfl,rfl,rfl,rfl,rfl,rfl,.inl rfl,rfl,rfl,rfl,by simp[d0]⟩
theorem smD_d0:smD d0:=by
 have h:∀{α:Type} (s:α->Prop),sL 64 s []:=λs=>⟨by simp,by simp⟩
 exact⟨h _,h _,by simp[d0],by simp[d0],by simp[d0],h _,h _,h _,h _,h _,h _⟩
theorem dec_got{bs:List UInt8}{d:Dm}(h:decD bs=some d):okD d/\smD d/\d.ft.length=d.fn.length/\(encD d).length<=bs.length:=by
 unfold decD at h
 split at h
 ·cases h
 rename_i t ht
 split at h
 ·cases h
 rename_i d2 hr
 split at h
 rotate_left
 ·cases h
 rename_i he
 injection h with h
 subst h
 unfold Sect.split at ht
 split at ht
 rotate_left
 ·cases ht
 rename_i hm
 have h8:8<=bs.length:=by
  have:=congrArg List.length hm
  simp[Sect.magic]at this
  omega
 obtain⟨-,-,g3,-⟩:=Sect.spl_ok _ _ _ _ _ t (zq _) ht (by omega)
 have hp:=spl_placed _ bs _ 8 0 0 t (zq _) h8 rfl ht
 obtain⟨a1,a2,a3⟩:=runS_got t d0 d2 hp hr okD_d0 smD_d0
 refine⟨a1,a2,he,?_⟩
 have e0:Sect.encL (secs d0)=[]:=rfl
 rw[e0]at a3
 rw[qc]at g3
 have e8:Sect.magic.length=8:=rfl
 unfold encD
 simp only[zz,e8]
 simp at a3
 omega
theorem dec_twelve(d:Dm)(h2:smD d)(hb:(encD d).length<4294967296):decD (encD d++[12])=none:=by
 have hs:=split_enc d [12] h2 hb
 rw[Sect.spl_cons,if_pos (by simp[Sect.fol])]at hs
 unfold decD
 rw[hs]
 rfl
end Go.Proofs.YteoijlfipmaoeaaGreatDoor.Bin
