import Derived.Test.YteoijlfipmaoeaaGreatDoorPJ15
set_option linter.unusedVariables false
set_option linter.unusedSimpArgs false
set_option maxRecDepth 100000
set_option maxHeartbeats 16000000
namespace Go.Proofs.YteoijlfipmaoeaaGreatDoor
open Lib (hid)
open Go.RowKit Trx
open Go.Proofs.Tryz
inductive PIn:{β:Type}->Nat->Nat->Nat->(β->List Value)->(β->Value)->Prop
 |Ty:PIn 161 75 2 (λx:Ty=>((Ty.cells x):List Value)) (λx=>.agg #[.slice x.p.A x.p.zs.length x.p.c,.slice x.r.A x.r.zs.length x.r.c])
 |Im:PIn 164 79 8 (λx:Im=>((Im.cells x):List Value)) (λx=>.agg #[.string x.md,.string x.nm,.int .i64 x.kd,.int .i64 x.ty,.bool x.mu,.int .i64 x.lm.mn,.int .i64 x.lm.mx,.bool x.lm.hs])
 |Ft:PIn 168 83 3 (λx:Fn=>((Fn.cells x):List Value)) (λx=>.agg #[.int .i64 x.ty,.slice x.lo.A x.lo.zs.length x.lo.c,.slice x.bo.A (len x.bo.f) x.bo.c])
 |Ta:PIn 170 86 3 (λx:Lm=>((Lm.cells x):List Value)) (λx=>.agg #[.int .i64 x.mn,.int .i64 x.mx,.bool x.hs])
 |Me:PIn 170 88 3 (λx:Lm=>((Lm.cells x):List Value)) (λx=>.agg #[.int .i64 x.mn,.int .i64 x.mx,.bool x.hs])
 |Gl:PIn 172 91 11 (λx:Gl=>((Gl.cells x):List Value)) (λx=>.agg #[.int .i64 x.ty,.bool x.mu,.int .i64 x.i.n.op,.int .i64 x.i.n.a,.int .i64 x.i.n.b,.int .u64 x.i.n.v,.int .i64 x.i.n.t,.slice x.i.p.AL x.i.n.L.length x.i.p.cL,.slice x.i.p.Ab (len x.i.n.body) x.i.p.cb,.slice x.i.p.Ae (len x.i.n.els) x.i.p.ce,.bool x.i.n.he])
 |Ex:PIn 175 96 3 (λx:Ex=>((Ex.cells x):List Value)) (λx=>.agg #[.string x.nm,.int .i64 x.kd,.int .i64 x.ix])
 |El:PIn 177 101 10 (λx:El=>((El.cells x):List Value)) (λx=>.agg #[.int .i64 x.i.n.op,.int .i64 x.i.n.a,.int .i64 x.i.n.b,.int .u64 x.i.n.v,.int .i64 x.i.n.t,.slice x.i.p.AL x.i.n.L.length x.i.p.cL,.slice x.i.p.Ab (len x.i.n.body) x.i.p.cb,.slice x.i.p.Ae (len x.i.n.els) x.i.p.ce,.bool x.i.n.he,.slice x.fs.A x.fs.zs.length x.fs.c])
 |Co:PIn 168 104 3 (λx:Fn=>((Fn.cells x):List Value)) (λx=>.agg #[.int .i64 x.ty,.slice x.lo.A x.lo.zs.length x.lo.c,.slice x.bo.A (len x.bo.f) x.bo.c])
 |Da:PIn 184 110 10 (λx:Da=>((Da.cells x):List Value)) (λx=>.agg #[.int .i64 x.i.n.op,.int .i64 x.i.n.a,.int .i64 x.i.n.b,.int .u64 x.i.n.v,.int .i64 x.i.n.t,.slice x.i.p.AL x.i.n.L.length x.i.p.cL,.slice x.i.p.Ab (len x.i.n.body) x.i.p.cb,.slice x.i.p.Ae (len x.i.n.els) x.i.p.ce,.bool x.i.n.he,.slice x.bs.A x.bs.bs.length x.bs.c])
 |Ts:PIn 102 162 1 (λx:Int=>([.int .i64 x]:List Value)) (λx=>.int .i64 x)
 |Ns:PIn 102 103 1 (λx:Int=>([.int .i64 x]:List Value)) (λx=>.int .i64 x)
 |Bs:PIn 178 179 1 (λx:UInt8=>([.int .u8 (x.toNat:Int)]:List Value)) (λx=>.int .u8 (x.toNat:Int))
 |Rn:PIn 180 182 2 (λx:Nat×Int=>([.int .i64 (x.1:Int),.int .i64 x.2]:List Value)) (λx=>.agg #[.int .i64 (x.1:Int),.int .i64 x.2])
theorem wlist_any{β:Type}{f f2 k:Nat}{cells:β->List Value}{arg:β->Value}(hI:PIn f f2 k cells arg)(p:β->Bin.Pc){W B0:Nat}{w0 w:World}{v u:Value}{bs:List UInt8}{bad:Bool}(l:List β)(A:Option Addr)(c:Nat)(hm:l.length<=100000000)(h:Wr W w0 w v u bs bad)(hB:Bx W w v B0 [pW W])
  (hl:Lst W w v A k (l.map cells)) (hL:bs.length+(Bin.pList p l).1.length<=100000000)
  (H:∀x∈l,∀(w':World) (v':Value) (bs':List UInt8) (bad':Bool),Wr W w0 w' v' u bs' bad'->Bx W w' v' B0 [pW W]->bs'.length+(p x).1.length<=100000000->Calls prog f2 #[arg x,.pointer (some ⟨B0,0,none⟩)] w' (WrP W w0 w' v' u bs' bad' (p x))):
  Calls prog f #[pW W,.slice A l.length c,.func (.func f2) #[] #[.pointer (some ⟨B0,0,none⟩)]] w (WrP W w0 w v u bs bad (Bin.pList p l)):=by
 have HN:=hid (number_any (l.length:Int) (by unfold inI;omega) h (by have:=Bin.pNum_le p l;omega))
 have HH:=hid H
 have HB:=hid hB
 have HLs:=hid hl
 have HL:=hid hL
 clear H hB hl hL h
 unfold WrP at HN HH⊢
 cases hI
 all_goals
  first|go_enter func161,ntmps161|go_enter func164,ntmps164|go_enter func168,ntmps168|go_enter func170,ntmps170|go_enter func172,ntmps172|go_enter func175,ntmps175|go_enter func177,ntmps177|go_enter func184,ntmps184|go_enter func102,ntmps102|go_enter func178,ntmps178|go_enter func180,ntmps180
  go_wp2_with(first|(go_at_call 84;(with_reducible refine HN.out.mono ?_);rintro e w1 ⟨rfl,v1,hw1,hk1⟩;have HW1:=hid hw1;have HK1:=hid hk1;clear hw1 hk1))
  go_loopw [14] (λi wr=>∃(j:Nat) (v':Value),i=.int .i64 j/\j<=l.length/\Hid (Wr W w0 wr v' u (bs++(Bin.pPre p l j).1) (bad || !(Bin.pPre p l j).2))/\Hid (Kw W w v wr v')) (λi _=>l.length-(intOf i).toNat)
  case atStart=>exact⟨0,v1,rfl,by omega,hid (HW1.out.eq (by simp[Bin.pPre_zero,Bin.cat]) (by simp[Bin.pPre_zero,Bin.cat])),HK1⟩
  case round=>
   obtain⟨j,v2,rfl,hj,HW2,HK2⟩:=hrel
   by_cases hlt:j<l.length
   ·
    obtain⟨x,hx⟩:∃x,l[j]? =some x:=⟨l[j],zb hlt⟩
    obtain⟨b,o,rfl,hb,hcell⟩:=((HLs.out.kw HK2.out).now).at_ (i:=j) (by rw[zr,hx];rfl)
    have q0:_=some _:=hcell 0 (by decide)
    try have q1:_=some _:=hcell 1 (by decide)
    try have q2:_=some _:=hcell 2 (by decide)
    try have q3:_=some _:=hcell 3 (by decide)
    try have q4:_=some _:=hcell 4 (by decide)
    try have q5:_=some _:=hcell 5 (by decide)
    try have q6:_=some _:=hcell 6 (by decide)
    try have q7:_=some _:=hcell 7 (by decide)
    try have q8:_=some _:=hcell 8 (by decide)
    try have q9:_=some _:=hcell 9 (by decide)
    try have q10:_=some _:=hcell 10 (by decide)
    simp only[qe,Nat.mul_one]at q0
    have HC:=hid (λo'=>HH.out x (zu hx) (wr.alloc o') v2 _ _ (HW2.out.alloc o') ((HB.out.kw HK2.out).alloc o') (by have:=Bin.pPre_len p l j x hx;have:=HL.out;simp only[zz];omega))
    have HC1:=hid (HH.out x (zu hx) wr v2 _ _ HW2.out (HB.out.kw HK2.out) (by have:=Bin.pPre_len p l j x hx;have:=HL.out;simp only[zz];omega))
    have HX:=hid hx
    clear hcell hx
    go_wp2_with(first|(go_at_call 75;(first|(with_reducible refine(HC.out _).mono ?_)|(with_reducible refine HC1.out.mono ?_));rintro e w3 ⟨rfl,v3,hw3,hk3⟩;have HW3:=hid hw3;have HK3:=hid hk3;clear hw3 hk3)|(go_at_call 79;(first|(with_reducible refine(HC.out _).mono ?_)|(with_reducible refine HC1.out.mono ?_));rintro e w3 ⟨rfl,v3,hw3,hk3⟩;have HW3:=hid hw3;have HK3:=hid hk3;clear hw3 hk3)|(go_at_call 83;(first|(with_reducible refine(HC.out _).mono ?_)|(with_reducible refine HC1.out.mono ?_));rintro e w3 ⟨rfl,v3,hw3,hk3⟩;have HW3:=hid hw3;have HK3:=hid hk3;clear hw3 hk3)|(go_at_call 86;(first|(with_reducible refine(HC.out _).mono ?_)|(with_reducible refine HC1.out.mono ?_));rintro e w3 ⟨rfl,v3,hw3,hk3⟩;have HW3:=hid hw3;have HK3:=hid hk3;clear hw3 hk3)|(go_at_call 88;(first|(with_reducible refine(HC.out _).mono ?_)|(with_reducible refine HC1.out.mono ?_));rintro e w3 ⟨rfl,v3,hw3,hk3⟩;have HW3:=hid hw3;have HK3:=hid hk3;clear hw3 hk3)|(go_at_call 91;(first|(with_reducible refine(HC.out _).mono ?_)|(with_reducible refine HC1.out.mono ?_));rintro e w3 ⟨rfl,v3,hw3,hk3⟩;have HW3:=hid hw3;have HK3:=hid hk3;clear hw3 hk3)|(go_at_call 96;(first|(with_reducible refine(HC.out _).mono ?_)|(with_reducible refine HC1.out.mono ?_));rintro e w3 ⟨rfl,v3,hw3,hk3⟩;have HW3:=hid hw3;have HK3:=hid hk3;clear hw3 hk3)|(go_at_call 101;(first|(with_reducible refine(HC.out _).mono ?_)|(with_reducible refine HC1.out.mono ?_));rintro e w3 ⟨rfl,v3,hw3,hk3⟩;have HW3:=hid hw3;have HK3:=hid hk3;clear hw3 hk3)|(go_at_call 104;(first|(with_reducible refine(HC.out _).mono ?_)|(with_reducible refine HC1.out.mono ?_));rintro e w3 ⟨rfl,v3,hw3,hk3⟩;have HW3:=hid hw3;have HK3:=hid hk3;clear hw3 hk3)|(go_at_call 110;(first|(with_reducible refine(HC.out _).mono ?_)|(with_reducible refine HC1.out.mono ?_));rintro e w3 ⟨rfl,v3,hw3,hk3⟩;have HW3:=hid hw3;have HK3:=hid hk3;clear hw3 hk3)|(go_at_call 162;(first|(with_reducible refine(HC.out _).mono ?_)|(with_reducible refine HC1.out.mono ?_));rintro e w3 ⟨rfl,v3,hw3,hk3⟩;have HW3:=hid hw3;have HK3:=hid hk3;clear hw3 hk3)|(go_at_call 103;(first|(with_reducible refine(HC.out _).mono ?_)|(with_reducible refine HC1.out.mono ?_));rintro e w3 ⟨rfl,v3,hw3,hk3⟩;have HW3:=hid hw3;have HK3:=hid hk3;clear hw3 hk3)|(go_at_call 179;(first|(with_reducible refine(HC.out _).mono ?_)|(with_reducible refine HC1.out.mono ?_));rintro e w3 ⟨rfl,v3,hw3,hk3⟩;have HW3:=hid hw3;have HK3:=hid hk3;clear hw3 hk3)|(go_at_call 182;(first|(with_reducible refine(HC.out _).mono ?_)|(with_reducible refine HC1.out.mono ?_));rintro e w3 ⟨rfl,v3,hw3,hk3⟩;have HW3:=hid hw3;have HK3:=hid hk3;clear hw3 hk3))
    go_roundw
    case rel=>exact⟨j+1,v3,by go_num,by omega,hid (by rw[Bin.pPre_succ p l j x HX.out];exact HW3.out.cat),hid (by first|exact(HK2.out.alloc _).trans HK3.out|exact HK2.out.trans HK3.out)⟩
    case measure=>simp[intOf];omega
   ·
    go_wp2_with fail
    go_end0
    exact⟨rfl,v2,by rw[<-Bin.pPre_all p l j (by omega)];exact HW2.out,HK2.out⟩
end Go.Proofs.YteoijlfipmaoeaaGreatDoor
