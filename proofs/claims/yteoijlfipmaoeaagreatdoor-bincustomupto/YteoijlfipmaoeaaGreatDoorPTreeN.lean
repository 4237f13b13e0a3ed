import Derived.Test.YteoijlfipmaoeaaGreatDoorPJ3
import Derived.Deep.DeepCutAuto
import Derived.Deep.CutBlock
set_option linter.unusedVariables false
set_option linter.unusedSimpArgs false
set_option maxRecDepth 100000
set_option maxHeartbeats 16000000
namespace Go.Proofs.YteoijlfipmaoeaaGreatDoor
open Lib (hid)
open Go.RowKit Trx
open Go.Proofs.Tryz
theorem few_any(f:Fo)(A:Option Addr)(c:Nat)(w:World)(hr:RdS w w.heap.size A f)(hm:len f<=maxLen):
  Calls prog 17 #[.slice A (len f) c] w λe w'=>(∃b,e=.returned (.bool b))/\w=w':=by
 have HC:=hid (refCount_any _ f A c w (zq _) hr hm)
 clear hr
 go_enter func17,ntmps17
 go_wp2_with(go_at_call 56;refine HC.out.mono ?_;rintro e w' ⟨rfl,rfl⟩)
 go_ret
 exact⟨⟨_,rfl⟩,rfl⟩
def inA(i:In):Value:=.agg #[.int .i64 i.n.op,.int .i64 i.n.a,.int .i64 i.n.b,.int .u64 i.n.v,.int .i64 i.n.t,.slice i.p.AL i.n.L.length i.p.cL,.slice i.p.Ab (len i.n.body) i.p.cb,.slice i.p.Ae (len i.n.els) i.p.ce,.bool i.n.he]
theorem single_rd{w w':World}{i:In}{o:Obj}{t:TypeId}(h:i.ok w w.heap.size)(hw:w'=(w.alloc o).alloc (.cells (insC i.n i.p) t)):RdS w' w'.heap.size (some ⟨w.heap.size+1,0,none⟩) (ofN [i.n]):=by
 intro _
 have hb:Below w.heap.size w w':=by rw[hw];exact((zx _ _).alloc (zq _) _).alloc (by simp) _
 refine⟨_,_,rfl,RdF.mk λj n hj=>?_⟩
 rw[nds_ofN]at hj
 cases j with
 |succ j=>simp at hj
 |zero=>
  simp at hj
  subst hj
  refine⟨i.p,?_,λk hk=>?_,h.nd.later hb⟩
  ·rw[hw];simp
  ·
   have e:w.heap.size+1=(w.alloc o).heap.size:=by simp
   rw[hw,e,zv _ _ _ _ rfl]
   simp
theorem single_any(i:In)(w:World)(h:i.ok w w.heap.size):
  Calls prog 18 #[inA i] w λe w'=>∃A,e=.returned (.slice A (len (ofN [i.n])) 1)/\RdS w' w'.heap.size A (ofN [i.n])/\Below w.heap.size w w':=by
 have HR:=hid (λo t=>single_rd (o:=o) (t:=t) h rfl)
 unfold insC at HR
 unfold inA
 rw[len_ofN]
 clear h
 go_enter func18,ntmps18
 go_wp2_with fail
 go_ret
 exact⟨_,rfl,HR.out _ _,((zx _ _).alloc (zq _) _).alloc (by simp) _⟩
def BelM(m:Mo)(w wx:World):Prop:=Below (w.alloc (.cells #[.slice m.ty.A m.ty.l.length m.ty.c,.slice m.im.A m.im.l.length m.im.c,.slice m.fn.A m.fn.l.length m.fn.c,.slice m.ta.A m.ta.l.length m.ta.c,.slice m.me.A m.me.l.length m.me.c,.slice m.gl.A m.gl.l.length m.gl.c,.slice m.ex.A m.ex.l.length m.ex.c,.int .i64 m.st,.slice m.el.A m.el.l.length m.el.c,.slice m.da.A m.da.l.length m.da.c,.slice m.cu.A m.cu.l.length m.cu.c] 32)).heap.size (w.alloc (.cells #[.slice m.ty.A m.ty.l.length m.ty.c,.slice m.im.A m.im.l.length m.im.c,.slice m.fn.A m.fn.l.length m.fn.c,.slice m.ta.A m.ta.l.length m.ta.c,.slice m.me.A m.me.l.length m.me.c,.slice m.gl.A m.gl.l.length m.gl.c,.slice m.ex.A m.ex.l.length m.ex.c,.int .i64 m.st,.slice m.el.A m.el.l.length m.el.c,.slice m.da.A m.da.l.length m.da.c,.slice m.cu.A m.cu.l.length m.cu.c] 32)) wx
theorem BelM.out{m:Mo}{w wx:World}(h:BelM m w wx):Below w.heap.size w wx:=bel_alloc h
theorem BelM.next{m:Mo}{w wx wy:World}(h:BelM m w wx)(hb:Below wx.heap.size wx wy):BelM m w wy:=Below.trans h (hb.mono (Below.size h))
theorem In.nine{w:World}{b o:Nat}{i:In}(h:∀j,j<9->w.cell? ⟨b,o+j,none⟩=i.cells[j]?):
  w.cell? ⟨b,o,none⟩=some (.int .i64 i.n.op)/\w.cell? ⟨b,o+1,none⟩=some (.int .i64 i.n.a)/\w.cell? ⟨b,o+2,none⟩=some (.int .i64 i.n.b)/\w.cell? ⟨b,o+3,none⟩=some (.int .u64 i.n.v)/\w.cell? ⟨b,o+4,none⟩=some (.int .i64 i.n.t)/\
  w.cell? ⟨b,o+5,none⟩=some (.slice i.p.AL i.n.L.length i.p.cL)/\w.cell? ⟨b,o+6,none⟩=some (.slice i.p.Ab (len i.n.body) i.p.cb)/\w.cell? ⟨b,o+7,none⟩=some (.slice i.p.Ae (len i.n.els) i.p.ce)/\w.cell? ⟨b,o+8,none⟩=some (.bool i.n.he):=
 ⟨h 0 (by omega),h 1 (by omega),h 2 (by omega),h 3 (by omega),h 4 (by omega),h 5 (by omega),h 6 (by omega),h 7 (by omega),h 8 (by omega)⟩
def FewL(m:Mo)(w:World)(n:Nat)(s i:Value)(wr:World):Prop:=∃(j:Nat) (b:Bool),j<=n/\i=.int .i64 j/\s=.bool b/\BelM m w wr
theorem Few_any(m:Mo)(w:World)(hm:m.ok w w.heap.size):
  Calls prog 8 #[moA m] w λe w'=>(∃b,e=.returned (.bool b))/\Below w.heap.size w w':=by
 unfold moA
 have HM:=hid hm
 have hcf:=hm.fn.c
 have hcg:=hm.gl.c
 have hce:=hm.el.c
 have hcd:=hm.da.c
 have hlf:=hm.fn.le
 have hlg:=hm.gl.le
 have hle:=hm.el.le
 have hld:=hm.da.le
 unfold maxLen at hcf hcg hce hcd
 have HFE:=hid few_any
 have HSI:=hid single_any
 unfold inA at HSI
 clear hm
 go_enter func8,ntmps8
 go_upto_region 1 with(fail)
 go_cut [3] (λs wx=>(∃b,s=.bool b)/\BelM m w wx)
 case first=>
  go_wp2_with fail
  all_goals
   go_meet
   case rel=>exact⟨⟨_,rfl⟩,zx _ _⟩
 case rest=>
  obtain⟨⟨b,rfl⟩,hbel⟩:=hcut
  go_upto_block 0 with(fail)
  go_cut [3] (λs wx=>(∃b,s=.bool b)/\BelM m w wx)
  case first=>
   have HB0:=hid hbel
   go_wp2_with fail
   go_loopw [3,4] (λs i wr=>FewL m w m.fn.l.length s i wr) (λ_ i _=>m.fn.l.length-(intOf i).toNat)
   case atStart=>exact⟨0,_,by omega,rfl,rfl,HB0.out⟩
   case round=>
    obtain⟨j,b2,hj,rfl,rfl,hbm⟩:=hrel
    have hbw:=hbm.out
    obtain⟨hltx,k0,k1,k2,k3,k4,k5,k6,k7,k8,k9,k10⟩:=elevenB hbm
    have HBM:=hid hbm
    by_cases hlt:j<m.fn.l.length
    ·
     cases b2
     ·
      clear hbm hbw
      go_wp2_with fail
      go_meet
      case rel=>exact⟨⟨_,rfl⟩,HBM.out⟩
     ·
      obtain⟨bb,o,x,hA,hx,hb,hok,hcell⟩:=HM.out.fn.at_ hlt
      have hcell':∀i,i<3->wr.cell? ⟨bb,o+j * 3+i,none⟩=x.cells[i]?:=λi hi=>(hbw.cell (p:=⟨bb,_,none⟩) hb).trans (hcell i hi)
      have c1:wr.cell? ⟨bb,o+j * 3+1,none⟩=some (.slice x.lo.A x.lo.zs.length x.lo.c):=hcell' 1 (by omega)
      have c2:wr.cell? ⟨bb,o+j * 3+2,none⟩=some (.slice x.bo.A (len x.bo.f) x.bo.c):=hcell' 2 (by omega)
      have HF:=hid (HFE.out x.bo.f x.bo.A x.bo.c wr ((hok.bo.keep hbw.size (Below.kp hbw)).rd) (zy hok.bo.le hok.bo.c))
      have hbwr:=zj hb hbw.size
      rw[hA]at k2
      clear hA hx hcell hcell' hok hbm hbw
      go_wp2_with(go_at_call 17;refine HF.out.mono ?_;rintro e w' ⟨⟨b',rfl⟩,rfl⟩)
      all_goals
       go_roundw
       case rel=>exact⟨j+1,_,by omega,by go_num,rfl,HBM.out⟩
       case measure=>simp[intOf];omega
    ·
     clear hbm hbw
     cases b2
     all_goals
      go_wp2_with fail
      go_meet
      case rel=>exact⟨⟨_,rfl⟩,HBM.out⟩
  case rest=>
   clear hbel
   obtain⟨⟨b,rfl⟩,hbel⟩:=hcut
   go_upto_block 2 with(fail)
   go_cut [3] (λs wx=>(∃b,s=.bool b)/\BelM m w wx)
   case first=>
    have HB0:=hid hbel
    go_wp2_with fail
    go_loopw [3,5] (λs i wr=>FewL m w m.gl.l.length s i wr) (λ_ i _=>m.gl.l.length-(intOf i).toNat)
    case atStart=>exact⟨0,_,by omega,rfl,rfl,HB0.out⟩
    case round=>
     obtain⟨j,b2,hj,rfl,rfl,hbm⟩:=hrel
     have hbw:=hbm.out
     obtain⟨hltx,k0,k1,k2,k3,k4,k5,k6,k7,k8,k9,k10⟩:=elevenB hbm
     have HBM:=hid hbm
     by_cases hlt:j<m.gl.l.length
     ·
      cases b2
      ·
       clear hbm hbw
       go_wp2_with fail
       go_meet
       case rel=>exact⟨⟨_,rfl⟩,HBM.out⟩
      ·
       obtain⟨bb,o,x,hA,hx,hb,hok,hcell⟩:=HM.out.gl.at_ hlt
       have hcell':∀i,i<11->wr.cell? ⟨bb,o+j * 11+i,none⟩=x.cells[i]?:=λi hi=>(hbw.cell (p:=⟨bb,_,none⟩) hb).trans (hcell i hi)
       obtain⟨q0,q1,q2,q3,q4,q5,q6,q7,q8⟩:=In.nine (w:=wr) (b:=bb) (o:=o+j * 11+2) (i:=x.i) (λk hk=>by
        have:=hcell' (k+2) (by omega)
        rw[show o+j * 11+(k+2)=o+j * 11+2+k by omega]at this
        rw[this]
        rcases k with _|_|_|_|_|_|_|_|_|k<;>first|rfl|omega)
       have HS:=hid (HSI.out x.i wr (hok.i.keep hbw.size (Below.kp hbw)))
       have hbwr:=zj hb hbw.size
       rw[hA]at k5
       have HA:=hid hA
       clear hA hx hcell hcell' hok hbm hbw
       go_wp2_with(first
        |(go_at_call 18;refine HS.out.mono ?_;rintro e w1 ⟨A1,rfl,hr1,hb1⟩;have HR1:=hid hr1;have HB1:=hid (HBM.out.next hb1);have hsz1:=hb1.size;have hlt1:=zj hltx hb1.size;have hbb1:=zj hbwr hb1.size;obtain⟨_,k0',k1',k2',k3',k4',k5',k6',k7',k8',k9',k10'⟩:=elevenB HB1.out;rw[HA.out]at k5';clear hb1 hr1)
        |(go_at_call 17;refine(HFE.out _ _ _ _ HR1.out (by rw[len_ofN];unfold maxLen;simp)).mono ?_;rintro e w' ⟨⟨b',rfl⟩,rfl⟩))
       all_goals
        go_roundw
        case rel=>exact⟨j+1,_,by omega,by go_num,rfl,HB1.out⟩
        case measure=>simp[intOf];omega
     ·
      clear hbm hbw
      cases b2
      all_goals
       go_wp2_with fail
       go_meet
       case rel=>exact⟨⟨_,rfl⟩,HBM.out⟩
   case rest=>
    clear hbel
    obtain⟨⟨b,rfl⟩,hbel⟩:=hcut
    go_upto_block 4 with(fail)
    go_cut [3] (λs wx=>(∃b,s=.bool b)/\BelM m w wx)
    case first=>
     have HB0:=hid hbel
     go_wp2_with fail
     go_loopw [3,6] (λs i wr=>FewL m w m.el.l.length s i wr) (λ_ i _=>m.el.l.length-(intOf i).toNat)
     case atStart=>exact⟨0,_,by omega,rfl,rfl,HB0.out⟩
     case round=>
      obtain⟨j,b2,hj,rfl,rfl,hbm⟩:=hrel
      have hbw:=hbm.out
      obtain⟨hltx,k0,k1,k2,k3,k4,k5,k6,k7,k8,k9,k10⟩:=elevenB hbm
      have HBM:=hid hbm
      by_cases hlt:j<m.el.l.length
      ·
       cases b2
       ·
        clear hbm hbw
        go_wp2_with fail
        go_meet
        case rel=>exact⟨⟨_,rfl⟩,HBM.out⟩
       ·
        obtain⟨bb,o,x,hA,hx,hb,hok,hcell⟩:=HM.out.el.at_ hlt
        have hcell':∀i,i<10->wr.cell? ⟨bb,o+j * 10+i,none⟩=x.cells[i]?:=λi hi=>(hbw.cell (p:=⟨bb,_,none⟩) hb).trans (hcell i hi)
        obtain⟨q0,q1,q2,q3,q4,q5,q6,q7,q8⟩:=In.nine (w:=wr) (b:=bb) (o:=o+j * 10) (i:=x.i) (λk hk=>by
         have:=hcell' (k+0) (by omega)
         rw[show o+j * 10+(k+0)=o+j * 10+k by omega]at this
         rw[this]
         rcases k with _|_|_|_|_|_|_|_|_|k<;>first|rfl|omega)
        have HS:=hid (HSI.out x.i wr (hok.i.keep hbw.size (Below.kp hbw)))
        have c9:wr.cell? ⟨bb,o+j * 10+9,none⟩=some (.slice x.fs.A x.fs.zs.length x.fs.c):=hcell' 9 (by omega)
        have hbwr:=zj hb hbw.size
        rw[hA]at k8
        have HA:=hid hA
        clear hA hx hcell hcell' hok hbm hbw
        go_wp2_with(first
         |(go_at_call 18;refine HS.out.mono ?_;rintro e w1 ⟨A1,rfl,hr1,hb1⟩;have HR1:=hid hr1;have HB1:=hid (HBM.out.next hb1);have hsz1:=hb1.size;have hlt1:=zj hltx hb1.size;have hbb1:=zj hbwr hb1.size;have c9':=(hb1.cell (p:=⟨bb,o+j * 10+9,none⟩) hbwr).trans c9;obtain⟨_,k0',k1',k2',k3',k4',k5',k6',k7',k8',k9',k10'⟩:=elevenB HB1.out;rw[HA.out]at k8';clear hb1 hr1)
         |(go_at_call 17;refine(HFE.out _ _ _ _ HR1.out (by rw[len_ofN];unfold maxLen;simp)).mono ?_;rintro e w' ⟨⟨b',rfl⟩,rfl⟩))
        all_goals
         go_roundw
         case rel=>exact⟨j+1,_,by omega,by go_num,rfl,HB1.out⟩
         case measure=>simp[intOf];omega
      ·
       clear hbm hbw
       cases b2
       all_goals
        go_wp2_with fail
        go_meet
        case rel=>exact⟨⟨_,rfl⟩,HBM.out⟩
    case rest=>
     clear hbel
     obtain⟨⟨b,rfl⟩,hbel⟩:=hcut
     go_upto_block 6 with(fail)
     go_cut [3] (λs wx=>(∃b,s=.bool b)/\BelM m w wx)
     case first=>
      have HB0:=hid hbel
      go_wp2_with fail
      go_loopw [3,7] (λs i wr=>FewL m w m.da.l.length s i wr) (λ_ i _=>m.da.l.length-(intOf i).toNat)
      case atStart=>exact⟨0,_,by omega,rfl,rfl,HB0.out⟩
      case round=>
       obtain⟨j,b2,hj,rfl,rfl,hbm⟩:=hrel
       have hbw:=hbm.out
       obtain⟨hltx,k0,k1,k2,k3,k4,k5,k6,k7,k8,k9,k10⟩:=elevenB hbm
       have HBM:=hid hbm
       by_cases hlt:j<m.da.l.length
       ·
        cases b2
        ·
         clear hbm hbw
         go_wp2_with fail
         go_meet
         case rel=>exact⟨⟨_,rfl⟩,HBM.out⟩
        ·
         obtain⟨bb,o,x,hA,hx,hb,hok,hcell⟩:=HM.out.da.at_ hlt
         have hcell':∀i,i<10->wr.cell? ⟨bb,o+j * 10+i,none⟩=x.cells[i]?:=λi hi=>(hbw.cell (p:=⟨bb,_,none⟩) hb).trans (hcell i hi)
         obtain⟨q0,q1,q2,q3,q4,q5,q6,q7,q8⟩:=In.nine (w:=wr) (b:=bb) (o:=o+j * 10) (i:=x.i) (λk hk=>by
          have:=hcell' (k+0) (by omega)
          rw[show o+j * 10+(k+0)=o+j * 10+k by omega]at this
          rw[this]
          rcases k with _|_|_|_|_|_|_|_|_|k<;>first|rfl|omega)
         have HS:=hid (HSI.out x.i wr (hok.i.keep hbw.size (Below.kp hbw)))
         have c9:wr.cell? ⟨bb,o+j * 10+9,none⟩=some (.slice x.bs.A x.bs.bs.length x.bs.c):=hcell' 9 (by omega)
         have hbwr:=zj hb hbw.size
         rw[hA]at k9
         have HA:=hid hA
         clear hA hx hcell hcell' hok hbm hbw
         go_wp2_with(first
          |(go_at_call 18;refine HS.out.mono ?_;rintro e w1 ⟨A1,rfl,hr1,hb1⟩;have HR1:=hid hr1;have HB1:=hid (HBM.out.next hb1);have hsz1:=hb1.size;have hlt1:=zj hltx hb1.size;have hbb1:=zj hbwr hb1.size;have c9':=(hb1.cell (p:=⟨bb,o+j * 10+9,none⟩) hbwr).trans c9;obtain⟨_,k0',k1',k2',k3',k4',k5',k6',k7',k8',k9',k10'⟩:=elevenB HB1.out;rw[HA.out]at k9';clear hb1 hr1)
          |(go_at_call 17;refine(HFE.out _ _ _ _ HR1.out (by rw[len_ofN];unfold maxLen;simp)).mono ?_;rintro e w' ⟨⟨b',rfl⟩,rfl⟩))
         all_goals
          go_roundw
          case rel=>exact⟨j+1,_,by omega,by go_num,rfl,HB1.out⟩
          case measure=>simp[intOf];omega
       ·
        clear hbm hbw
        cases b2
        all_goals
         go_wp2_with fail
         go_meet
         case rel=>exact⟨⟨_,rfl⟩,HBM.out⟩
     case rest=>
      clear hbel
      obtain⟨⟨b,rfl⟩,hbel⟩:=hcut
      have HB0:=hid hbel
      clear hbel
      go_wp2_with fail
      go_ret
      exact⟨⟨_,rfl⟩,HB0.out.out⟩
end Go.Proofs.YteoijlfipmaoeaaGreatDoor
