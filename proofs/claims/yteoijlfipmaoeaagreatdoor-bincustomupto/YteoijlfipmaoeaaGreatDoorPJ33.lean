import Derived.Test.YteoijlfipmaoeaaGreatDoorPTreeS6
set_option linter.unusedVariables false
set_option linter.unusedSimpArgs false
set_option maxRecDepth 100000
set_option maxHeartbeats 8000000
namespace Go.Proofs.YteoijlfipmaoeaaGreatDoor
open Lib (hid)
open Go.RowKit Trx
open Go.Proofs.Tryz
theorem Ints_same(zs:List Int)(A1 A2:Option Addr)(c1 c2:Nat)(w:World)(h1:Sl w w.heap.size A1 (n64s zs))(h2:Sl w w.heap.size A2 (n64s zs))(hm:zs.length<=maxLen):
  Calls prog 51 #[.slice A1 zs.length c1,.slice A2 zs.length c2] w λe w'=>e=.returned (.bool true)/\∃n,w'=w.drewN n:=by
 unfold maxLen at hm
 have H1:=hid h1
 have H2:=hid h2
 clear h1 h2
 go_enter func51,ntmps51
 go_wp2_with fail
 go_loopw [5] (λi wr=>∃(j n:Nat),j<=zs.length/\i=.int .i64 j/\wr=w.drewN n) (λi _=>zs.length-(intOf i).toNat)
 case atStart=>exact⟨0,0,by omega,rfl,rfl⟩
 case round=>
  obtain⟨j,n,hj,rfl,rfl⟩:=hrel
  by_cases hlt:j<zs.length
  ·
   have hne:n64s zs≠[]:=by intro e;have:=congrArg List.length e;rw[n64s_length,zh]at this;omega
   obtain⟨b1,o1,rfl,hb1,hc1⟩:=H1.out hne
   obtain⟨b2,o2,rfl,hb2,hc2⟩:=H2.out hne
   have hg:(n64s zs)[j]? =some (.int .i64 zs[j]):=by simp[n64s,hlt]
   have q1:(w.drewN n).cell? ⟨b1,o1+j,none⟩=some (.int .i64 zs[j]):=(hc1 j (by simpa using hlt)).trans hg
   have q2:(w.drewN n).cell? ⟨b2,o2+j,none⟩=some (.int .i64 zs[j]):=(hc2 j (by simpa using hlt)).trans hg
   obtain⟨z,hz⟩:∃z,z=zs[j]:=⟨_,rfl⟩
   rw[<-hz]at q1 q2
   have tz:(z != z)=false:=by simp
   obtain⟨w0,hw0⟩:∃w0,w0=w.drewN n:=⟨_,rfl⟩
   have hb1':b1<w0.heap.size:=by rw[hw0];exact hb1
   have hb2':b2<w0.heap.size:=by rw[hw0];exact hb2
   rw[<-hw0]at q1 q2⊢
   have HW:=hid hw0
   clear hz hc1 hc2 hg hne hw0
   go_wp2_with fail
   go_quiet (fail)
   go_wp2_with fail
   go_roundw
   case rel=>exact⟨j+1,n+nq,by omega,by go_num,by rw[HW.out,jl]⟩
   case measure=>simp[intOf];omega
  ·
   go_wp2_with fail
   go_ret
   exact⟨rfl,n,rfl⟩
theorem Ints_below(zs:List Int)(A1 A2:Option Addr)(c1 c2:Nat)(w:World)(h1:Sl w w.heap.size A1 (n64s zs))(h2:Sl w w.heap.size A2 (n64s zs))(hm:zs.length<=maxLen):
  Calls prog 51 #[.slice A1 zs.length c1,.slice A2 zs.length c2] w λe w'=>e=.returned (.bool true)/\Below w.heap.size w w':=by
 refine(Ints_same zs A1 A2 c1 c2 w h1 h2 hm).mono ?_
 rintro e w' ⟨rfl,n,rfl⟩
 exact⟨rfl,bel_drewN _ _⟩
theorem SameIns_same(k:Nat):∀(f:Fo) (A1 A2:Option Addr) (c1 c2:Nat) (w:World),cnt f<=k->RdS w w.heap.size A1 f->RdS w w.heap.size A2 f->len f<=maxLen->
  Calls prog 52 #[.slice A1 (len f) c1,.slice A2 (len f) c2] w λe w'=>e=.returned (.bool true)/\Below w.heap.size w w':=by
 induction k using Nat.strongRecOn with
 |ind k ih=>
  intro f A1 A2 c1 c2 w hk h1 h2 hm
  unfold maxLen at hm
  have H1:=hid h1
  have H2:=hid h2
  have HIH:=hid ih
  clear ih h1 h2
  have tl:((len f:Int) != (len f:Int))=false:=by simp
  go_enter func52,ntmps52
  go_wp2_with fail
  go_loopw [5] (λi wr=>∃j:Nat,j<=len f/\i=.int .i64 j/\Below w.heap.size w wr) (λi _=>len f-(intOf i).toNat)
  case atStart=>exact⟨0,by omega,rfl,zx _ _⟩
  case round=>
   obtain⟨j,hj,rfl,hbel⟩:=hrel
   by_cases hlt:j<len f
   ·
    obtain⟨b1,o1,n,p1,rfl,hn,at1⟩:=H1.out.at_ hlt
    obtain⟨b2,o2,n',p2,rfl,hn',at2⟩:=H2.out.at_ hlt
    have hnn:n=n':=Option.some.inj (hn.symm.trans hn')
    subst hnn
    obtain⟨q0,q1,q2,q3,q4,q5,q6,q7,q8⟩:=(at1.below hbel).nine
    obtain⟨r0,r1,r2,r3,r4,r5,r6,r7,r8⟩:=(at2.below hbel).nine
    have hb1:=zj at1.lt hbel.size
    have hb2:=zj at2.lt hbel.size
    have hmem:n∈nds f:=zu hn
    have ok1:=at1.ok
    have ok2:=at2.ok
    have HI:=hid (λw' (hb:Below w.heap.size w w')=>Ints_below n.L p1.AL p2.AL p1.cL p2.cL w' ((ok1.num.sL.below hb).more hb.size) ((ok2.num.sL.below hb).more hb.size) (zy ok1.num.hL ok1.num.cL))
    have HB:=hid (λw' (hb:Below w.heap.size w w')=>HIH.out _ (zj (cnt_mem hmem).1 hk) n.body p1.Ab p2.Ab p1.cb p2.cb w' (zq _) ((ok1.body.below hb).more hb.size) ((ok2.body.below hb).more hb.size) (zy ok1.num.hb ok1.num.cb))
    have HE:=hid (λw' (hb:Below w.heap.size w w')=>HIH.out _ (zj (cnt_mem hmem).2 hk) n.els p1.Ae p2.Ae p1.ce p2.ce w' (zq _) ((ok1.els.below hb).more hb.size) ((ok2.els.below hb).more hb.size) (zy ok1.num.he ok1.num.ce))
    have HBel:=hid hbel
    have hsz:=hbel.size
    clear at1 at2 hbel hn hn' hmem ok1 ok2 HIH
    have t0:(n.op != n.op)=false:=by simp
    have t1:(n.a != n.a)=false:=by simp
    have t2:(n.b != n.b)=false:=by simp
    have t3:(n.v != n.v)=false:=by simp
    have t4:(n.t != n.t)=false:=by simp
    have t8:(n.he != n.he)=false:=by simp
    go_wp2_with(first
     |(go_at_call 51;((with_reducible refine(HI.out _ ((HBel.out.alloc hsz _).alloc (by simp;omega) _)).mono ?_);rintro e w1 ⟨rfl,hb1⟩;have HKw1:=hid (show Bxs wr #[.int .i64 n.op,.int .i64 n.a,.int .i64 n.b,.int .u64 n.v,.int .i64 n.t,.slice p1.AL n.L.length p1.cL,.slice p1.Ab (len n.body) p1.cb,.slice p1.Ae (len n.els) p1.ce,.bool n.he] #[.int .i64 n.op,.int .i64 n.a,.int .i64 n.b,.int .u64 n.v,.int .i64 n.t,.slice p2.AL n.L.length p2.cL,.slice p2.Ab (len n.body) p2.cb,.slice p2.Ae (len n.els) p2.ce,.bool n.he] w1 from two_box hb1);have x6:w1.cell? ⟨wr.heap.size,6,none⟩=some (.slice p1.Ab (len n.body) p1.cb):=HKw1.out.2.1 6;have y6:w1.cell? ⟨wr.heap.size+1,6,none⟩=some (.slice p2.Ab (len n.body) p2.cb):=HKw1.out.2.2.1 6;have x7:w1.cell? ⟨wr.heap.size,7,none⟩=some (.slice p1.Ae (len n.els) p1.ce):=HKw1.out.2.1 7;have y7:w1.cell? ⟨wr.heap.size+1,7,none⟩=some (.slice p2.Ae (len n.els) p2.ce):=HKw1.out.2.2.1 7;have hlw1:=HKw1.out.1;have HW1:=hid (HBel.out.trans (HKw1.out.bel.mono hsz));clear hb1))
     |(go_at_call 52;((with_reducible refine(HB.out _ HW1.out).mono ?_);rintro e w2 ⟨rfl,hb2⟩;have HKw2:=hid (HKw1.out.next hb2);clear x6 y6 x7 y7;have x7:w2.cell? ⟨wr.heap.size,7,none⟩=some (.slice p1.Ae (len n.els) p1.ce):=HKw2.out.2.1 7;have y7:w2.cell? ⟨wr.heap.size+1,7,none⟩=some (.slice p2.Ae (len n.els) p2.ce):=HKw2.out.2.2.1 7;have hlw2:=HKw2.out.1;have HW2:=hid (HBel.out.trans (HKw2.out.bel.mono hsz));clear hb2))
     |(go_at_call 52;((with_reducible refine(HE.out _ HW2.out).mono ?_);rintro e w3 ⟨rfl,hb3⟩;have HW3:=hid (HW2.out.trans (hb3.mono HW2.out.size));clear hb3)))
    go_roundw
    case rel=>exact⟨j+1,by omega,by go_num,HW3.out⟩
    case measure=>simp[intOf];omega
   ·
    have HB:=hid hbel
    clear hbel
    go_wp2_with fail
    go_ret
    exact⟨rfl,HB.out⟩
@[reducible] def fz(f:Nat->Value):Act:=⟨#[f 0,f 1,f 2,f 3,f 4,f 5,f 6,f 7,f 8,f 9,f 10,f 11,f 12,f 13,f 14,f 15,f 16,f 17,f 18,f 19,f 20,f 21,f 22,f 23,f 24,f 25,f 26,f 27,f 28,f 29,f 30,f 31,f 32,f 33,f 34,f 35,f 36,f 37,f 38,f 39,f 40,f 41,f 42,f 43,f 44,f 45,f 46,f 47,f 48,f 49,f 50,f 51,f 52,f 53,f 54,f 55,f 56,f 57,f 58,f 59,f 60,f 61,f 62,f 63,f 64,f 65,f 66,f 67,f 68,f 69,f 70,f 71,f 72,f 73,f 74,f 75,f 76,f 77,f 78,f 79,f 80,f 81,f 82,f 83,f 84,f 85,f 86,f 87,f 88,f 89,f 90,f 91,f 92,f 93,f 94,f 95,f 96,f 97,f 98,f 99,f 100,f 101,f 102,f 103,f 104,f 105,f 106,f 107,f 108,f 109,f 110,f 111,f 112,f 113,f 114,f 115,f 116,f 117,f 118,f 119,f 120,f 121,f 122,f 123,f 124,f 125,f 126,f 127,f 128,f 129,f 130,f 131,f 132,f 133,f 134,f 135,f 136,f 137,f 138,f 139,f 140,f 141,f 142,f 143,f 144,f 145,f 146,f 147,f 148,f 149,f 150,f 151,f 152,f 153,f 154,f 155,f 156,f 157,f 158,f 159,f 160,f 161,f 162,f 163,f 164,f 165,f 166,f 167,f 168,f 169,f 170,f 171,f 172,f 173,f 174,f 175,f 176,f 177,f 178,f 179,f 180,f 181,f 182,f 183,f 184,f 185,f 186,f 187,f 188,f 189,f 190,f 191,f 192,f 193,f 194,f 195,f 196,f 197,f 198,f 199,f 200,f 201,f 202,f 203,f 204,f 205,f 206,f 207,f 208,f 209,f 210,f 211,f 212,f 213,f 214,f 215,f 216,f 217,f 218,f 219,f 220,f 221,f 222,f 223,f 224,f 225,f 226,f 227,f 228,f 229,f 230,f 231,f 232,f 233,f 234,f 235,f 236,f 237,f 238,f 239,f 240,f 241,f 242,f 243,f 244,f 245,f 246,f 247,f 248,f 249,f 250,f 251,f 252,f 253,f 254,f 255,f 256,f 257,f 258,f 259,f 260,f 261,f 262,f 263,f 264,f 265,f 266,f 267,f 268,f 269,f 270,f 271,f 272,f 273,f 274,f 275,f 276,f 277,f 278,f 279,f 280,f 281,f 282,f 283,f 284,f 285,f 286,f 287,f 288,f 289,f 290,f 291,f 292,f 293,f 294,f 295,f 296,f 297,f 298,f 299,f 300,f 301,f 302,f 303,f 304,f 305,f 306,f 307,f 308,f 309,f 310,f 311,f 312,f 313,f 314,f 315,f 316,f 317,f 318,f 319,f 320,f 321,f 322,f 323,f 324,f 325,f 326,f 327,f 328,f 329,f 330,f 331,f 332,f 333,f 334,f 335,f 336,f 337,f 338,f 339,f 340,f 341,f 342,f 343,f 344,f 345,f 346,f 347,f 348,f 349,f 350,f 351,f 352,f 353,f 354,f 355,f 356,f 357,f 358,f 359,f 360,f 361,f 362,f 363,f 364,f 365,f 366,f 367,f 368,f 369,f 370,f 371,f 372,f 373,f 374,f 375,f 376,f 377,f 378,f 379,f 380,f 381,f 382,f 383,f 384,f 385,f 386,f 387,f 388,f 389,f 390,f 391,f 392,f 393,f 394,f 395,f 396,f 397,f 398,f 399,f 400,f 401,f 402,f 403,f 404,f 405,f 406,f 407,f 408,f 409,f 410,f 411,f 412,f 413,f 414,f 415,f 416,f 417,f 418,f 419,f 420,f 421,f 422,f 423,f 424,f 425,f 426,f 427,f 428,f 429,f 430,f 431,f 432,f 433,f 434,f 435,f 436,f 437,f 438,f 439,f 440,f 441,f 442,f 443,f 444,f 445,f 446,f 447,f 448,f 449,f 450,f 451,f 452,f 453,f 454,f 455,f 456,f 457,f 458,f 459,f 460,f 461,f 462,f 463],[]⟩
noncomputable def smBody(k:Nat):Code:=(((Tryz.f14.body.map loopsOf).getD [])[k]?).getD .skip
theorem fz_of(a:Act)(h:a.tmps.size=464)(hd:a.defers=[]):a=fz (λi=>a.eval (.tmp i)):=by
 have h2:a.tmps=((List.range 464).map λi=>a.tmps.getD i undef).toArray:=by
  apply Array.ext
  ·simp[h]
  ·
   intro i h1 h2
   simp[kv,h1]
 obtain⟨t,d⟩:=a
 simp only at hd h2
 subst hd
 have h3:(⟨t,[]⟩:Act)=⟨((List.range 464).map λi=>t.getD i undef).toArray,[]⟩:=congrArg (λx=>(⟨x,[]⟩:Act)) h2
 exact h3
structure Fz(b1:Nat)(a:Act):Prop where
 size:a.tmps.size=464
 defers:a.defers=[]
 e2:a.eval (.tmp 2)=.pointer (some ⟨b1,0,none⟩)
 e3:a.eval (.tmp 3)=.pointer (some ⟨b1+1,0,none⟩)
 e5:a.eval (.tmp 5)=.bool true
structure SmC(m n:Mo)(w0:World)(b1:Nat):Prop where
 lt:b1+1<w0.heap.size
 box1:∀i,i<11->w0.cell? ⟨b1,i,none⟩=m.cells[i]?
 box2:∀i,i<11->w0.cell? ⟨b1+1,i,none⟩=n.cells[i]?
 ok1:m.ok w0 w0.heap.size
 ok2:n.ok w0 w0.heap.size
 key:keyM m=keyM n
theorem gen_z{P:Program}{c:Code}{Q:Exit->Act->World->Prop}{w:World}(k:Nat){v2 v3 v5 vk:Value}(a:Act)(hs:a.tmps.size=464)(hd:a.defers=[])(h2:a.eval (.tmp 2)=v2)(h3:a.eval (.tmp 3)=v3)(h5:a.eval (.tmp 5)=v5)(hk:a.eval (.tmp k)=vk)
  (H:∀a:Act,a.tmps.size=464->a.defers=[]->a.eval (.tmp 2)=v2->a.eval (.tmp 3)=v3->a.eval (.tmp 5)=v5->a.eval (.tmp k)=vk->Code.wp P c Q a w):Code.wp P c Q a w:=H a hs hd h2 h3 h5 hk
theorem op_guardT{P:Program}{ops:Array Oper}{Q:Exit->Act->World->Prop}{i j d:Nat}{o:Oper}{a:Act}{w:World}{K:Act->World->Prop}(ho:ops[i]? =some o)(hg:o.guard=some (j,true))(hj:(ops[j]?).bind (·.dst)=some d)(hv:a.eval (.tmp d)=.bool true)(h:Oper.wp P o a w K Q):wpOp P ops Q i K a w:=by
 unfold wpOp
 rw[ho]
 have ht:a.tmps[d]? =some (.bool true):=by
  have:=ev hv
  cases hx:a.tmps[d]? with
  |none=>rw[hx]at this;simp[undef]at this
  |some u=>rw[hx]at this;simp at this;rw[this]
 have hw:Region.wanted o (yielded ops a.tmps)=true:=by simp[Region.wanted,hg,yielded,hj,ht]
 simp only[hw,if_true]
 exact .inl h
theorem Ints_eq(x y:IL)(w:World)(hx:x.ok w w.heap.size)(hy:y.ok w w.heap.size)(h:x.zs=y.zs):
  Calls prog 51 #[.slice x.A x.zs.length x.c,.slice y.A y.zs.length y.c] w λe w'=>e=.returned (.bool true)/\Below w.heap.size w w':=by
 obtain⟨zs,A,c⟩:=y
 simp only at h
 subst h
 refine(Ints_same x.zs x.A A x.c c w hx.sl hy.sl (zy hx.le hx.c)).mono ?_
 rintro e w' ⟨rfl,n,rfl⟩
 exact⟨rfl,bel_drewN _ _⟩
theorem Code_eq(x y:FL)(w:World)(hx:x.ok w w.heap.size)(hy:y.ok w w.heap.size)(h:x.f=y.f):
  Calls prog 52 #[.slice x.A (len x.f) x.c,.slice y.A (len y.f) y.c] w λe w'=>e=.returned (.bool true)/\Below w.heap.size w w':=by
 obtain⟨f,A,c⟩:=y
 simp only at h
 subst h
 exact SameIns_same _ x.f x.A A x.c c w (zq _) hx.rd hy.rd (zy hx.le hx.c)
theorem Ins_eq(n1 n2:Nd)(A1 A2:Option Addr)(w:World)(h1:RdS w w.heap.size A1 (ofN [n1]))(h2:RdS w w.heap.size A2 (ofN [n2]))(h:n1=n2):
  Calls prog 52 #[.slice A1 1 1,.slice A2 1 1] w λe w'=>e=.returned (.bool true)/\Below w.heap.size w w':=by
 subst h
 exact SameIns_same _ (ofN [n1]) A1 A2 1 1 w (zq _) h1 h2 (by rw[len_ofN];unfold maxLen;simp)
theorem key_at{α β:Type}(k:α->β){l m:List α}{j:Nat}{x y:α}(h:l.map k=m.map k)(hx:l[j]? =some x)(hy:m[j]? =some y):k x=k y:=by
 have h1:(l.map k)[j]? =some (k x):=by rw[zr,hx];rfl
 have h2:(m.map k)[j]? =some (k y):=by rw[zr,hy];rfl
 rw[h,h2]at h1
 exact(Option.some.inj h1).symm
theorem key_len{α β:Type}(k:α->β){l m:List α}(h:l.map k=m.map k):m.length=l.length:=by have:=congrArg List.length h;simp at this;exact this.symm
section
variable{P:Program}{ops:Array Oper}{Q:Exit->Act->World->Prop}{G:Edge->Prop}{Vi:Value->World->Prop}{a:Act}{w:World}{l:List Edge}
theorem gt{i:Nat}{K:Act->World->Prop}(j dj:Nat){jj:Nat}{o:Oper}(hV:∀e,e∈l->Region.binds .any e=true->G e)
  (H:Oper.wp P o a w K Q)
  (ho:ops[i]? =some o:=by rfl) (hg:o.guard=some (jj,true):=by rfl) (hj:(ops[jj]?).bind (·.dst)=some dj:=by rfl)
  (hm:⟨j,.guard⟩∈l:=by first|exact .head _|exact .tail _ (.head _)|exact .tail _ (.tail _ (.head _))|exact .tail _ (.tail _ (.tail _ (.head _)))|exact .tail _ (.tail _ (.tail _ (.tail _ (.head _)))))
  (h:G ⟨j,.guard⟩->a.eval (.tmp dj)=.bool true:=by exact λh=>h):wpOp P ops Q i K a w:=
 op_guardT ho hg hj (h (hV ⟨j,.guard⟩ hm rfl)) H
theorem gv{i di:Nat}(j dj:Nat){jj:Nat}{o:Oper}{v:Value}(hV:∀e,e∈l->Region.binds .any e=true->G e)
  (ho:ops[i]? =some o:=by rfl) (hg:o.guard=some (jj,true):=by rfl) (hj:(ops[jj]?).bind (·.dst)=some dj:=by rfl)
  (hm:⟨j,.guard⟩∈l:=by first|exact .head _|exact .tail _ (.head _)|exact .tail _ (.tail _ (.head _))|exact .tail _ (.tail _ (.tail _ (.head _)))|exact .tail _ (.tail _ (.tail _ (.tail _ (.head _)))))
  (hk:G ⟨j,.guard⟩->a.eval (.tmp dj)=.bool true:=by exact λh=>h)
  (hd:o.dst=some di:=by rfl) (hv:Vi v w:=by exact rfl) (h:(execOp a.eval o).run P w=.ok (.value v) w:=by go_simp):
  wpOp P ops Q i (λa' w'=>∃v,a'=a.put (some di) v/\Below w.heap.size w w'/\Vi v w') a w:=
 gt j dj hV (op_val v h ⟨v,by rw[hd],zx _ _,hv⟩) ho hg hj hm hk
end
def WV(L:List (Value ⊕ Nd))(i:Nat)(v:Value)(w:World):Prop:=match L[i]? with
 |some (.inl u)=>v=u
 |some (.inr n)=>∃A,v=.slice A 1 1/\RdS w w.heap.size A (ofN [n])
 |none=>True
theorem WV.mono{L:List (Value ⊕ Nd)}(i:Nat)(v:Value)(w w':World)(h:WV L i v w)(hb:Below w.heap.size w w'):WV L i v w':=by
 unfold WV at *
 split at h
 ·exact h
 ·
  obtain⟨A,h1,h2⟩:=h
  exact⟨A,h1,h2.later hb⟩
 ·trivial
theorem wv{L:List (Value ⊕ Nd)}{i:Nat}{u:Value}{w:World}(h:L[i]? =some (.inl u)):WV L i u w:=by unfold WV;rw[h]
theorem wn{L:List (Value ⊕ Nd)}{i:Nat}{n:Nd}{A:Option Addr}{w:World}(h:L[i]? =some (.inr n))(hr:RdS w w.heap.size A (ofN [n])):WV L i (.slice A 1 1) w:=by unfold WV;rw[h];exact⟨A,rfl,hr⟩
def tt1:Value ⊕ Nd:=.inl (.bool true)
def sd(b F p o n c j k:Nat)(r:List (Value ⊕ Nd)):List (Value ⊕ Nd):=.inl (.pointer (some ⟨b,F,none⟩))::.inl (.slice (some ⟨p,o,none⟩) n c)::.inl (.int .i64 j)::.inl (.pointer (some ⟨p,o+j * k,none⟩))::r
def sp(p o:Nat)(r:List (Value ⊕ Nd)):List (Value ⊕ Nd):=.inl (.pointer (some ⟨p,o,none⟩))::r
theorem lt_zero{P:Nat->Prop}:∀i,i<0->P i:=λ_ h=>absurd h (by omega)
theorem lt_step{P:Nat->Prop}{n:Nat}(h:P n)(H:∀i,i<n->P i):∀i,i<n+1->P i:=λi hi=>by
 by_cases e:i=n
 ·rw[e];exact h
 ·exact H i (by omega)
section
variable{G:Edge->Prop}{a:Act}{l:List Edge}
theorem kp(q:Nat){i di:Nat}{v:Value}(hV:∀e,e∈l->Region.binds .any e=true->G e)(hl:l[q]? =some ⟨i,.data⟩:=by rfl)(h:G ⟨i,.data⟩->a.eval (.tmp di)=v:=by exact λh=>h):a.tmps[di]?.getD undef=v:=
 ev (h (hV ⟨i,.data⟩ (zu hl) rfl))
theorem kq(q:Nat){i di:Nat}{w:World}{n:Nd}(hV:∀e,e∈l->Region.binds .any e=true->G e)(hl:l[q]? =some ⟨i,.data⟩:=by rfl)(h:G ⟨i,.data⟩->∃A,a.eval (.tmp di)=.slice A 1 1/\RdS w w.heap.size A (ofN [n]):=by exact λh=>h):
  ∃A,a.tmps[di]?.getD undef=.slice A 1 1/\RdS w w.heap.size A (ofN [n]):=by
 obtain⟨A,h1,h2⟩:=h (hV ⟨i,.data⟩ (zu hl) rfl)
 exact⟨A,ev h1,h2⟩
theorem gw{P:Program}{ops:Array Oper}{Q:Exit->Act->World->Prop}{Vi:Value->World->Prop}{w:World}{i di j dj jj:Nat}{o:Oper}{v:Value}(hV:∀e,e∈l->Region.binds .any e=true->G e)
  (ho:ops[i]? =some o:=by rfl) (hg:o.guard=some (jj,true):=by rfl) (hj:(ops[jj]?).bind (·.dst)=some dj:=by rfl)
  (hm:⟨j,.guard⟩∈l:=by first|exact .head _|exact .tail _ (.head _)|exact .tail _ (.tail _ (.head _))|exact .tail _ (.tail _ (.tail _ (.head _))))
  (hk:G ⟨j,.guard⟩->a.eval (.tmp dj)=.bool true:=by exact λh=>h)
  (hd:o.dst=some di:=by rfl) (hv:Vi v w:=by exact rfl) (h:(execOp a.eval o).run P w=.ok (.value v) w:=by first|(go_simp;done)|(unfold inA;go_simp;done)|fail):
  wpOp P ops Q i (λa' w'=>∃v,a'=a.put (some di) v/\Below w.heap.size w w'/\Vi v w') a w:=
 gv j dj hV ho hg hj hm hk hd hv h
end
section
variable{m n:Mo}{w0 w:World}{b1 F:Nat}{A:Option Addr}{l c:Nat}
theorem SmC.d0(hC:SmC m n w0 b1)(hb:Below w0.heap.size w0 w)(hF:F<11)(h:m.cells[F]? =some (.slice A l c)):w.cell? ⟨b1,F,none⟩=some (.slice A l c):=(hb.cell (p:=⟨b1,F,none⟩) (Nat.lt_of_succ_lt hC.lt)).trans ((hC.box1 F hF).trans h)
theorem SmC.d1(hC:SmC m n w0 b1)(hb:Below w0.heap.size w0 w)(hF:F<11)(h:n.cells[F]? =some (.slice A l c)):w.cell? ⟨b1+1,F,none⟩=some (.slice A l c):=(hb.cell (p:=⟨b1+1,F,none⟩) hC.lt).trans ((hC.box2 F hF).trans h)
end
theorem sl_open{b1 c:Nat}{v:Value}{a:Act}(hf:Fz b1 a)(h4:a.eval (.tmp c)=v):
  ∃f:Nat->Value,a=fz f/\f 2=.pointer (some ⟨b1,0,none⟩)/\f 3=.pointer (some ⟨b1+1,0,none⟩)/\f c=v/\f 5=.bool true:=⟨_,fz_of a hf.size hf.defers,hf.e2,hf.e3,h4,hf.e5⟩
section
variable{n b c:Nat}{b1:Nat}{a a1:Act}{w w1:World}{v v2 v3 v5:Value}
theorem sl_z(hB:Bs n (λi=>i+b) a w a1 w1)(e2:a.eval (.tmp 2)=v2)(e3:a.eval (.tmp 3)=v3)(e5:a.eval (.tmp 5)=v5)(e4:a.eval (.tmp c)=v)(hb:5<b)(hc:c<b):
  a1.tmps[2]?.getD undef=v2/\a1.tmps[3]?.getD undef=v3/\a1.tmps[5]?.getD undef=v5/\a1.tmps[c]?.getD undef=v:=
 ⟨ev ((hB.same 2 (λi _=>by omega)).trans e2),ev ((hB.same 3 (λi _=>by omega)).trans e3),ev ((hB.same 5 (λi _=>by omega)).trans e5),ev ((hB.same c (λi _=>by omega)).trans e4)⟩
theorem sl_put{X:Act->Prop}(hB:Bs n (λi=>i+b) a w a1 w1)(hsz:a.tmps.size=464)(hd:a.defers=[])(e2:a.eval (.tmp 2)=v2)(e3:a.eval (.tmp 3)=v3)(e4:a.eval (.tmp c)=v)(hb:5<b)(hc:c<b)(h5:5<c)
  (H:∀f:Nat->Value,f 2=v2->f 3=v3->f c=v->f 5=.bool true->X (fz f)):X (a1.put (some 5) (.bool true)):=by
 have s1:=hB.size.trans hsz
 rw[fz_of (a1.put (some 5) (.bool true)) (by rw[size_put];exact s1) (by rw[defers_put,hB.defers,hd])]
 refine H _ ?_ ?_ ?_ ?_
 ·
  show(a1.put (some 5) (.bool true)).eval (.tmp 2)=v2
  rw[eval_put,if_neg (by omega)];exact(hB.same 2 (λi _=>by omega)).trans e2
 ·
  show(a1.put (some 5) (.bool true)).eval (.tmp 3)=v3
  rw[eval_put,if_neg (by omega)];exact(hB.same 3 (λi _=>by omega)).trans e3
 ·
  show(a1.put (some 5) (.bool true)).eval (.tmp c)=v
  rw[eval_put,if_neg (by omega)];exact(hB.same c (λi _=>by omega)).trans e4
 ·
  show(a1.put (some 5) (.bool true)).eval (.tmp 5)=_
  rw[eval_put,if_pos ⟨rfl,by omega⟩]
end
theorem sl_le{α:Type}{cells:α->List Value}{q:World->Nat->α->Prop}{k y:Nat}{w:World}{B:Nat}{s:SL α}(h:s.ok cells q k y w B):s.l.length<=9223372036854775807:=by
 have:=zy h.le h.c
 unfold maxLen at this
 exact this
theorem sloop_im(m n:Mo)(w0:World)(b1:Nat)(hC:SmC m n w0 b1)(Q0:Exit->Act->World->Prop)(hexit:∀(a:Act) (wr:World),Fz b1 a->Below w0.heap.size w0 wr->Q0 (.exit 2) a wr)
  (a:Act) (w:World) (hf:Fz b1 a) (h4:a.eval (.tmp 7)=.int .i64 0) (hb:Below w0.heap.size w0 w):(Code.loop (smBody 1)).wp prog Q0 a w:=by
 have hkey:=((keyM_iff m n).1 hC.key).2.2.1
 have hle:=sl_le hC.ok1.im
 refine wp_loop (λa wr=>Fz b1 a/\∃j:Nat,a.eval (.tmp 7)=.int .i64 j/\j<=m.im.l.length/\Below w0.heap.size w0 wr) (λa _=>m.im.l.length-(intOf (a.eval (.tmp 7))).toNat) ⟨hf,0,h4,by omega,hb⟩ ?_
 clear hf h4 hb a w
 rintro a wr ⟨hf,j,h6,hj,hbel⟩
 obtain⟨f,rfl,h2,h3,h4,h5⟩:=sl_open hf h6
 clear hf h6
 have hc0:wr.cell? ⟨b1,1,none⟩=some (.slice m.im.A m.im.l.length m.im.c):=hC.d0 hbel (by omega) rfl
 by_cases hlt:j<m.im.l.length
 ·
  obtain⟨p1,o1,x,hA1,hx,hb1,hok1,hcell1⟩:=hC.ok1.im.at_ hlt
  have hlt2:j<n.im.l.length:=by rw[<-hkey];exact hlt
  obtain⟨p2,o2,y,hA2,hy,hb2,hok2,hcell2⟩:=hC.ok2.im.at_ hlt2
  obtain rfl:x=y:=Option.some.inj (hx.symm.trans ((congrArg (λl=>l[j]?) hkey).trans hy))
  have HC:=hid hC
  clear hkey hexit hC
  rw[hA1]at hc0
  conv=>arg 2;whnf
  unfold fz
  simp only[h2,h3,h4,h5]
  go_wp2_with fail
  refine gen_z 7 (v2:=.pointer (some ⟨b1,0,none⟩)) (v3:=.pointer (some ⟨b1+1,0,none⟩)) (v5:=.bool true) (vk:=.int .i64 j) _ rfl rfl rfl rfl rfl rfl ?_
  intro a hsz hd e2 e3 e5 e4
  refine region_vals 14 15 (WV ([tt1]++([tt1]++(sd b1 1 p1 o1 m.im.l.length m.im.c j 8 [.inl (.agg #[.string x.md,.string x.nm,.int .i64 x.kd,.int .i64 x.ty,.bool x.mu,.int .i64 x.lm.mn,.int .i64 x.lm.mx,.bool x.lm.hs])]++(sd (b1+1) 1 p2 o2 n.im.l.length n.im.c j 8 [.inl (.agg #[.string x.md,.string x.nm,.int .i64 x.kd,.int .i64 x.ty,.bool x.mu,.int .i64 x.lm.mn,.int .i64 x.lm.mx,.bool x.lm.hs])]++([tt1]++([tt1]))))))) (λi=>i+156) a wr (by kernel_rfl) rfl (by omega) (by kernel_rfl) (by kernel_rfl) (by kernel_rfl) (by rw[hsz];kernel_rfl) WV.mono ?_ ?_
  ·
   intro i hi a1 w1 hB hV
   have hb:Below w0.heap.size w0 w1:=hbel.trans ((((zx wr.heap.size wr).drew).trans hB.below).mono hbel.size)
   obtain⟨z2,z3,z5,z4⟩:=sl_z hB e2 e3 e5 e4 (by omega) (by omega)
   have d0:w1.cell? ⟨b1,1,none⟩=some (.slice m.im.A m.im.l.length m.im.c):=HC.out.d0 hb (by omega) rfl
   have d1:w1.cell? ⟨b1+1,1,none⟩=some (.slice n.im.A n.im.l.length n.im.c):=HC.out.d1 hb (by omega) rfl
   rw[hA1]at d0
   rw[hA2]at d1
   have u:=row_of hb hb1 hcell1
   have v:=row_of hb hb2 hcell2
   simp only[allC,Im.cells,zi,qx,qz,Nat.reduceAdd,qe,and_true]at u v
   obtain⟨u0,u1,u2,u3,u4,u5,u6,u7⟩:=u
   obtain⟨v0,v1,v2,v3,v4,v5,v6,v7⟩:=v
   clear hcell1 hcell2 hc0 hB hok1 hok2
   revert i
   repeat'(first|exact lt_zero|refine lt_step ?_ ?_)
   all_goals
    intro hV
    (try have k0:=kp 0 hV)
    (try have k1:=kp 1 hV)
    (try have k2:=kp 2 hV)
    (try simp only[Nat.reduceAdd]at k0)
    (try simp only[Nat.reduceAdd]at k1)
    (try simp only[Nat.reduceAdd]at k2)
    first
    |exact pv
    |exact gw hV
  ·
   intro a1 w1 hB hV
   have hbw:Below wr.heap.size wr w1:=((zx wr.heap.size wr).drew).trans hB.below
   have kz:=ev (show a1.eval (.tmp 169)=.bool true from hV 13 (by omega))
   clear hV
   refine ready_one (i:=14) (by kernel_rfl) rfl rfl (op_val (.bool true) (by go_simp) (ready_none (by kernel_rfl) ?_))
   refine sl_put (X:=λa=>Exit.inBlock _ _ _ a w1) hB hsz hd e2 e3 e4 (by omega) (by omega) (by omega) λf' F2 F3 F4 F5=>?_
   clear kz hB e2 e3 e4 e5 hsz hd a1 a
   unfold fz
   simp only[F2,F3,F4,F5]
   go_wp2_with fail
   refine⟨⟨⟨rfl,rfl,rfl,rfl,rfl⟩,j+1,by show Value.int .i64 _=_;go_num,by omega,hbel.trans (hbw.mono hbel.size)⟩,?_⟩
   show m.im.l.length-(intOf (.int .i64 _)).toNat<m.im.l.length-(intOf (.int .i64 _)).toNat
   simp[intOf]
   omega
 ·
  have HX:=hid (λa (hf:Fz b1 a)=>hexit a wr hf hbel)
  clear hexit hkey
  conv=>arg 2;whnf
  unfold fz
  simp only[h2,h3,h4,h5]
  go_wp2_with fail
  exact HX.out _ ⟨rfl,rfl,rfl,rfl,rfl⟩
theorem sloop_ta(m n:Mo)(w0:World)(b1:Nat)(hC:SmC m n w0 b1)(Q0:Exit->Act->World->Prop)(hexit:∀(a:Act) (wr:World),Fz b1 a->Below w0.heap.size w0 wr->Q0 (.exit 6) a wr)
  (a:Act) (w:World) (hf:Fz b1 a) (h4:a.eval (.tmp 9)=.int .i64 0) (hb:Below w0.heap.size w0 w):(Code.loop (smBody 3)).wp prog Q0 a w:=by
 have hkey:=((keyM_iff m n).1 hC.key).2.2.2.2.1
 have hle:=sl_le hC.ok1.ta
 refine wp_loop (λa wr=>Fz b1 a/\∃j:Nat,a.eval (.tmp 9)=.int .i64 j/\j<=m.ta.l.length/\Below w0.heap.size w0 wr) (λa _=>m.ta.l.length-(intOf (a.eval (.tmp 9))).toNat) ⟨hf,0,h4,by omega,hb⟩ ?_
 clear hf h4 hb a w
 rintro a wr ⟨hf,j,h6,hj,hbel⟩
 obtain⟨f,rfl,h2,h3,h4,h5⟩:=sl_open hf h6
 clear hf h6
 have hc0:wr.cell? ⟨b1,3,none⟩=some (.slice m.ta.A m.ta.l.length m.ta.c):=hC.d0 hbel (by omega) rfl
 by_cases hlt:j<m.ta.l.length
 ·
  obtain⟨p1,o1,x,hA1,hx,hb1,hok1,hcell1⟩:=hC.ok1.ta.at_ hlt
  have hlt2:j<n.ta.l.length:=by rw[<-hkey];exact hlt
  obtain⟨p2,o2,y,hA2,hy,hb2,hok2,hcell2⟩:=hC.ok2.ta.at_ hlt2
  obtain rfl:x=y:=Option.some.inj (hx.symm.trans ((congrArg (λl=>l[j]?) hkey).trans hy))
  have HC:=hid hC
  clear hkey hexit hC
  rw[hA1]at hc0
  conv=>arg 2;whnf
  unfold fz
  simp only[h2,h3,h4,h5]
  go_wp2_with fail
  refine gen_z 9 (v2:=.pointer (some ⟨b1,0,none⟩)) (v3:=.pointer (some ⟨b1+1,0,none⟩)) (v5:=.bool true) (vk:=.int .i64 j) _ rfl rfl rfl rfl rfl rfl ?_
  intro a hsz hd e2 e3 e5 e4
  refine region_vals 14 15 (WV ([tt1]++([tt1]++(sd b1 3 p1 o1 m.ta.l.length m.ta.c j 3 [.inl (.agg #[.int .i64 x.mn,.int .i64 x.mx,.bool x.hs])]++(sd (b1+1) 3 p2 o2 n.ta.l.length n.ta.c j 3 [.inl (.agg #[.int .i64 x.mn,.int .i64 x.mx,.bool x.hs])]++([tt1]++([tt1]))))))) (λi=>i+230) a wr (by kernel_rfl) rfl (by omega) (by kernel_rfl) (by kernel_rfl) (by kernel_rfl) (by rw[hsz];kernel_rfl) WV.mono ?_ ?_
  ·
   intro i hi a1 w1 hB hV
   have hb:Below w0.heap.size w0 w1:=hbel.trans ((((zx wr.heap.size wr).drew).trans hB.below).mono hbel.size)
   obtain⟨z2,z3,z5,z4⟩:=sl_z hB e2 e3 e5 e4 (by omega) (by omega)
   have d0:w1.cell? ⟨b1,3,none⟩=some (.slice m.ta.A m.ta.l.length m.ta.c):=HC.out.d0 hb (by omega) rfl
   have d1:w1.cell? ⟨b1+1,3,none⟩=some (.slice n.ta.A n.ta.l.length n.ta.c):=HC.out.d1 hb (by omega) rfl
   rw[hA1]at d0
   rw[hA2]at d1
   have u:=row_of hb hb1 hcell1
   have v:=row_of hb hb2 hcell2
   simp only[allC,Lm.cells,zi,qx,qz,Nat.reduceAdd,qe,and_true]at u v
   obtain⟨u0,u1,u2⟩:=u
   obtain⟨v0,v1,v2⟩:=v
   clear hcell1 hcell2 hc0 hB hok1 hok2
   revert i
   repeat'(first|exact lt_zero|refine lt_step ?_ ?_)
   all_goals
    intro hV
    (try have k0:=kp 0 hV)
    (try have k1:=kp 1 hV)
    (try have k2:=kp 2 hV)
    (try simp only[Nat.reduceAdd]at k0)
    (try simp only[Nat.reduceAdd]at k1)
    (try simp only[Nat.reduceAdd]at k2)
    first
    |exact pv
    |exact gw hV
  ·
   intro a1 w1 hB hV
   have hbw:Below wr.heap.size wr w1:=((zx wr.heap.size wr).drew).trans hB.below
   have kz:=ev (show a1.eval (.tmp 243)=.bool true from hV 13 (by omega))
   clear hV
   refine ready_one (i:=14) (by kernel_rfl) rfl rfl (op_val (.bool true) (by go_simp) (ready_none (by kernel_rfl) ?_))
   refine sl_put (X:=λa=>Exit.inBlock _ _ _ a w1) hB hsz hd e2 e3 e4 (by omega) (by omega) (by omega) λf' F2 F3 F4 F5=>?_
   clear kz hB e2 e3 e4 e5 hsz hd a1 a
   unfold fz
   simp only[F2,F3,F4,F5]
   go_wp2_with fail
   refine⟨⟨⟨rfl,rfl,rfl,rfl,rfl⟩,j+1,by show Value.int .i64 _=_;go_num,by omega,hbel.trans (hbw.mono hbel.size)⟩,?_⟩
   show m.ta.l.length-(intOf (.int .i64 _)).toNat<m.ta.l.length-(intOf (.int .i64 _)).toNat
   simp[intOf]
   omega
 ·
  have HX:=hid (λa (hf:Fz b1 a)=>hexit a wr hf hbel)
  clear hexit hkey
  conv=>arg 2;whnf
  unfold fz
  simp only[h2,h3,h4,h5]
  go_wp2_with fail
  exact HX.out _ ⟨rfl,rfl,rfl,rfl,rfl⟩
theorem sloop_ty(m n:Mo)(w0:World)(b1:Nat)(hC:SmC m n w0 b1)(Q0:Exit->Act->World->Prop)(hexit:∀(a:Act) (wr:World),Fz b1 a->Below w0.heap.size w0 wr->Q0 (.exit 0) a wr)
  (a:Act) (w:World) (hf:Fz b1 a) (h4:a.eval (.tmp 6)=.int .i64 0) (hb:Below w0.heap.size w0 w):(Code.loop (smBody 0)).wp prog Q0 a w:=by
 have hkey:=((keyM_iff m n).1 hC.key).2.1
 have hle:=sl_le hC.ok1.ty
 refine wp_loop (λa wr=>Fz b1 a/\∃j:Nat,a.eval (.tmp 6)=.int .i64 j/\j<=m.ty.l.length/\Below w0.heap.size w0 wr) (λa _=>m.ty.l.length-(intOf (a.eval (.tmp 6))).toNat) ⟨hf,0,h4,by omega,hb⟩ ?_
 clear hf h4 hb a w
 rintro a wr ⟨hf,j,h6,hj,hbel⟩
 obtain⟨f,rfl,h2,h3,h4,h5⟩:=sl_open hf h6
 clear hf h6
 have hc0:wr.cell? ⟨b1,0,none⟩=some (.slice m.ty.A m.ty.l.length m.ty.c):=hC.d0 hbel (by omega) rfl
 by_cases hlt:j<m.ty.l.length
 ·
  obtain⟨p1,o1,x,hA1,hx,hb1,hok1,hcell1⟩:=hC.ok1.ty.at_ hlt
  have hlt2:j<n.ty.l.length:=by rw[key_len kTy hkey];exact hlt
  obtain⟨p2,o2,y,hA2,hy,hb2,hok2,hcell2⟩:=hC.ok2.ty.at_ hlt2
  obtain⟨⟨_,A3,c3⟩,⟨_,A4,c4⟩⟩:=y
  have hkk:=key_at kTy hkey hx hy
  simp only[kTy,Prod.mk.injEq]at hkk
  obtain⟨rfl,rfl⟩:=hkk
  have HC:=hid hC
  clear hkey hexit hC
  rw[hA1]at hc0
  conv=>arg 2;whnf
  unfold fz
  simp only[h2,h3,h4,h5]
  go_wp2_with fail
  refine gen_z 6 (v2:=.pointer (some ⟨b1,0,none⟩)) (v3:=.pointer (some ⟨b1+1,0,none⟩)) (v5:=.bool true) (vk:=.int .i64 j) _ rfl rfl rfl rfl rfl rfl ?_
  intro a hsz hd e2 e3 e5 e4
  refine region_vals 31 32 (WV ([tt1]++([tt1]++(sd b1 0 p1 o1 m.ty.l.length m.ty.c j 2 (sp p1 (o1+j * 2) [.inl (.slice x.p.A x.p.zs.length x.p.c)])++(sd (b1+1) 0 p2 o2 n.ty.l.length n.ty.c j 2 (sp p2 (o2+j * 2) [.inl (.slice A3 x.p.zs.length c3)])++([tt1]++([tt1]++([tt1]++(sd b1 0 p1 o1 m.ty.l.length m.ty.c j 2 (sp p1 (o1+j * 2+1) [.inl (.slice x.r.A x.r.zs.length x.r.c)])++(sd (b1+1) 0 p2 o2 n.ty.l.length n.ty.c j 2 (sp p2 (o2+j * 2+1) [.inl (.slice A4 x.r.zs.length c4)])++([tt1]++([tt1])))))))))))) (λi=>i+118) a wr (by kernel_rfl) rfl (by omega) (by kernel_rfl) (by kernel_rfl) (by kernel_rfl) (by rw[hsz];kernel_rfl) WV.mono ?_ ?_
  ·
   intro i hi a1 w1 hB hV
   have hb:Below w0.heap.size w0 w1:=hbel.trans ((((zx wr.heap.size wr).drew).trans hB.below).mono hbel.size)
   obtain⟨z2,z3,z5,z4⟩:=sl_z hB e2 e3 e5 e4 (by omega) (by omega)
   have d0:w1.cell? ⟨b1,0,none⟩=some (.slice m.ty.A m.ty.l.length m.ty.c):=HC.out.d0 hb (by omega) rfl
   have d1:w1.cell? ⟨b1+1,0,none⟩=some (.slice n.ty.A n.ty.l.length n.ty.c):=HC.out.d1 hb (by omega) rfl
   rw[hA1]at d0
   rw[hA2]at d1
   have u:=row_of hb hb1 hcell1
   have v:=row_of hb hb2 hcell2
   simp only[allC,Ty.cells,zi,qx,qz,Nat.reduceAdd,qe,and_true]at u v
   obtain⟨u0,u1⟩:=u
   obtain⟨v0,v1⟩:=v
   have hkx:=hok1.keep hb.size (Below.kp hb)
   have hky:=hok2.keep hb.size (Below.kp hb)
   have hq0:=Ints_eq x.p ⟨x.p.zs,A3,c3⟩ w1 hkx.p hky.p rfl
   dsimp only at hq0
   have HQ0:=hid hq0
   clear hq0
   have hq1:=Ints_eq x.r ⟨x.r.zs,A4,c4⟩ w1 hkx.r hky.r rfl
   dsimp only at hq1
   have HQ1:=hid hq1
   clear hq1
   clear hcell1 hcell2 hc0 hB hok1 hok2
   revert i
   repeat'(first|exact lt_zero|refine lt_step ?_ ?_)
   all_goals
    intro hV
    (try have k0:=kp 0 hV)
    (try have k1:=kp 1 hV)
    (try have k2:=kp 2 hV)
    (try simp only[Nat.reduceAdd]at k0)
    (try simp only[Nat.reduceAdd]at k1)
    (try simp only[Nat.reduceAdd]at k2)
    first
    |exact pv
    |exact gw hV
    |(refine gt _ _ hV ?_;go_simp;(first|with_reducible refine HQ0.out.mono ?_|with_reducible refine HQ1.out.mono ?_);rintro e w' ⟨rfl,hb⟩;exact⟨_,rfl,hb,wv (by rfl)⟩)
  ·
   intro a1 w1 hB hV
   have hbw:Below wr.heap.size wr w1:=((zx wr.heap.size wr).drew).trans hB.below
   have kz:=ev (show a1.eval (.tmp 148)=.bool true from hV 30 (by omega))
   clear hV
   refine ready_one (i:=31) (by kernel_rfl) rfl rfl (op_val (.bool true) (by go_simp) (ready_none (by kernel_rfl) ?_))
   refine sl_put (X:=λa=>Exit.inBlock _ _ _ a w1) hB hsz hd e2 e3 e4 (by omega) (by omega) (by omega) λf' F2 F3 F4 F5=>?_
   clear kz hB e2 e3 e4 e5 hsz hd a1 a
   unfold fz
   simp only[F2,F3,F4,F5]
   go_wp2_with fail
   refine⟨⟨⟨rfl,rfl,rfl,rfl,rfl⟩,j+1,by show Value.int .i64 _=_;go_num,by omega,hbel.trans (hbw.mono hbel.size)⟩,?_⟩
   show m.ty.l.length-(intOf (.int .i64 _)).toNat<m.ty.l.length-(intOf (.int .i64 _)).toNat
   simp[intOf]
   omega
 ·
  have HX:=hid (λa (hf:Fz b1 a)=>hexit a wr hf hbel)
  clear hexit hkey
  conv=>arg 2;whnf
  unfold fz
  simp only[h2,h3,h4,h5]
  go_wp2_with fail
  exact HX.out _ ⟨rfl,rfl,rfl,rfl,rfl⟩
end Go.Proofs.YteoijlfipmaoeaaGreatDoor
