import Derived.Lib.Mul64
import Derived.Shelf.Bits.Mul64
import Derived.Test.YtfdgkleoaehjaaaGreatDoorfGAF
set_option maxHeartbeats 4000000
set_option maxRecDepth 100000
namespace Go.Proofs.YtfdgkleoaehjaaaGreatDoor
open Go.RowKit
set_option linter.unusedVariables false
set_option maxRecDepth 100000

theorem tK (x y:Nat):(x:Int)/(y:Int)=((x/y:Nat):Int):=(Int.natCast_ediv x y).symm

theorem IS (x y:Nat):(x:Int)%(y:Int)=((x%y:Nat):Int):=(Int.natCast_emod x y).symm

theorem oI (x y p:Nat)(hp:p=x*y%18446744073709551616):IntKind.u64.wrap ((x:Int)*(y:Int))=(p:Int):=by
 rw[hp,<-iH,Int.natCast_mul]

theorem uP (hi lo y:Nat)(w:World)(hlo:lo<18446744073709551616)(hyb:y<18446744073709551616)(hlt:hi<y)(Q R:Nat)(hQ:Q=(hi*18446744073709551616+lo)/y)(hR:R=(hi*18446744073709551616+lo)%y):
 Calls Tryz.prog 185 #[.int .u64 (hi:Int),.int .u64 (lo:Int),.int .u64 (y:Int)] w fun e w'=>e=.returned (.tuple #[.int .u64 (Q:Int),.int .u64 (R:Int)])/\∃q,w'=w.drewN q:=by
 have hyp:0<y:=by omega
 have t0:((y:Int)==0)=false:=by simp;omega
 have t1:¬(y:Int)<=(hi:Int):=by omega
 by_cases hh:hi=0
 . have t2:((hi:Int)==0)=true:=by simp;omega
   have hQ':Q=lo/y:=by rw[hQ,hh];simp
   have hR':R=lo%y:=by rw[hR,hh];simp
   have q1:=tK lo y;have q2:=IS lo y;rw[<-hQ']at q1;rw[<-hR']at q2;have hQb:Q<18446744073709551616:=by rw[hQ'];exact Nat.lt_of_le_of_lt (Nat.div_le_self _ _) hlo
   have hRb:R<18446744073709551616:=by rw[hR'];exact Nat.lt_of_le_of_lt (Nat.mod_le _ _) hlo
   clear hQ hR hQ' hR' hh;go_enter Tryz.func185,Tryz.ntmps185;go_wp2_with fail
   go_quiet(fail)
   go_wp2_with fail
   go_ret2
   exact⟨by rw[<-q2];rfl,_,rfl⟩
 . have t2:((hi:Int)==0)=false:=by simp;omega
   obtain⟨s,es⟩:∃s:Nat,s=64-aB y:=⟨_,rfl⟩;obtain⟨hs64,hyn,hyn2⟩:=qZ y s hyp hyb es;obtain⟨hu1,hu2,hu3⟩:=FV hi lo s y hs64 hlo hlt hyn;obtain⟨u,eu⟩:∃u:Nat,u=hi*2^s+lo/2^(64-s):=⟨_,rfl⟩;obtain⟨v,ev⟩:∃v:Nat,v=lo*2^s%18446744073709551616:=⟨_,rfl⟩;obtain⟨yn,eyn⟩:∃yn:Nat,yn=y*2^s:=⟨_,rfl⟩;rw[<-eu]at hu1 hu2 hu3;rw[<-ev]at hu3;rw[<-eyn]at hyn hyn2 hu2
   have wyn:IntKind.u64.wrap ((y:Int)*2^s)=(yn:Int):=by
    rw[fK,<-Int.natCast_mul,iH,<-eyn,Nat.mod_eq_of_lt hyn]
   have wv:IntKind.u64.wrap ((lo:Int)*2^s)=(v:Int):=by
    rw[fK,<-Int.natCast_mul,iH,<-ev]
   have hQ2:Q=(u*18446744073709551616+v)/yn:=by rw[hu3,eyn,Nat.mul_div_mul_right _ _ (Nat.pow_pos (by omega)),hQ]
   have hR2:R*2^s=(u*18446744073709551616+v)%yn:=by rw[hu3,eyn,Nat.mul_mod_mul_right,hR]
   have hvb:v<18446744073709551616:=by rw[ev];exact Nat.mod_lt _ (by omega)
   obtain⟨y1,e1⟩:∃y1:Nat,y1=yn/4294967296:=⟨_,rfl⟩;obtain⟨y0,e0⟩:∃y0:Nat,y0=yn%4294967296:=⟨_,rfl⟩;have hyy:yn=y1*4294967296+y0:=by omega
   have hy0:y0<4294967296:=by omega
   have hy1:4294967296<=2*y1:=by omega
   have hy1b:y1<4294967296:=by omega
   have wy1:(yn:Int)/4294967296=(y1:Int):=by omega
   have wy0:bits BinOp.and IntKind.u64 (yn:Int) 4294967295=(y0:Int):=by rw[and_low32 _ (by omega) (by omega)];omega
   obtain⟨d1,ed1⟩:∃d1:Nat,d1=v/4294967296:=⟨_,rfl⟩;obtain⟨d0,ed0⟩:∃d0:Nat,d0=v%4294967296:=⟨_,rfl⟩;have hvv:v=d1*4294967296+d0:=by omega
   have hd1:d1<4294967296:=by omega
   have hd0:d0<4294967296:=by omega
   have wd1:(v:Int)/4294967296=(d1:Int):=by omega
   have wd0:bits BinOp.and IntKind.u64 (v:Int) 4294967295=(d0:Int):=by rw[and_low32 _ (by omega) (by omega)];omega
   have hynp:0<yn:=by omega
   have tq:((y1:Int)==0)=false:=by simp;omega
   have hub:u<18446744073709551616:=by omega
   have K1:=M.Kn.first (C:=4294967296) (u:=u) (d:=d1) (by omega) hyy hd1 hu2 hy0 hy1;obtain⟨g1,eg1⟩:∃g:Nat,g=u/y1:=⟨_,rfl⟩;obtain⟨r1,er1⟩:∃r:Nat,r=u%y1:=⟨_,rfl⟩;rw[<-eg1,<-er1]at K1;have wg1:(u:Int)/(y1:Int)=(g1:Int):=by rw[tK,<-eg1]
   have hr1l:r1<4294967296:=by rw[er1];have:=Nat.mod_lt u (show 0<y1 by omega);omega
   have hg1b:g1<18446744073709551616:=by have:=K1.le;omega
   have wm1:IntKind.u64.wrap ((g1:Int)*(y1:Int))=((g1*y1:Nat):Int):=mD g1 y1 _ rfl (by have:=K1.sum;omega);obtain⟨gy1,egy1⟩:∃t:Nat,t=g1*y1:=⟨_,rfl⟩;rw[<-egy1]at wm1;have ws1:(u:Int)-(gy1:Int)=(r1:Int):=by have:=K1.sum;rw[<-egy1]at this;omega
   obtain⟨q1,eq1⟩:∃q:Nat,q=(u*4294967296+d1)/yn:=⟨_,rfl⟩;obtain⟨u2,eu2⟩:∃q:Nat,q=(u*4294967296+d1)%yn:=⟨_,rfl⟩;have ES:=hid es;have HK1:=hid K1;have HQ2:=hid hQ2;have HR2:=hid hR2;have EQ1:=hid eq1;have EU2:=hid eu2;have HYY:=hid hyy;have HVV:=hid hvv;clear es K1 hQ2 hR2 eq1 eu2 hyy hvv eu ev eyn e1 e0 ed1 ed0 eg1 er1 egy1 hQ hR hu3;go_enter Tryz.func185,Tryz.ntmps185;go_wp2_with fail;refine(LH y _ hyb s ES.out).mono ?_;rintro e w1 ⟨rfl,rfl⟩;go_upto_block 0 with fail
   go_cut[16,15] (fun r q wc=>q=.int .u64 (q1:Int)/\(∃r':Nat,r=.int .u64 (r':Int))/\wc=w1)
   case first=>
    go_wp2_with fail
    go_loopw [16,15] (fun r q wr=>∃(g r0:Nat),q=.int .u64 g/\r=.int .u64 r0/\M.Kn 4294967296 u d1 y1 y0 yn g r0/\r0<4294967296/\wr=w1) (fun _ q _=>(intOf q).toNat)
    case atStart=>exact⟨g1,r1,rfl,rfl,HK1.out,hr1l,rfl⟩
    case round=>
     obtain⟨g,r0,rfl,rfl,hK,hr0,rfl⟩:=hrel;have hgb0:g<18446744073709551616:=by have:=hK.le;omega
     by_cases hge:4294967296<=g
     . have hge':(4294967296:Int)<=(g:Int):=by omega
       obtain⟨hg0,hK2⟩:=hK.down HYY.out hynp hu2 hd1 (Or.inl hge);obtain⟨g',eg'⟩:∃t:Nat,t=g-1:=⟨_,rfl⟩;obtain⟨r',er'⟩:∃t:Nat,t=r0+y1:=⟨_,rfl⟩;rw[<-eg',<-er']at hK2;have wg':(g:Int)-1=(g':Int):=by omega
       have wr':(r0:Int)+(y1:Int)=(r':Int):=by omega
       have hgb:g'<18446744073709551616:=by have:=hK2.le;omega
       have hrb:r'<18446744073709551616:=by omega
       have hgC:g'<=4294967296:=by have:=hK.le;omega
       have HG:=hid eg';have HR:=hid er';clear eg' er'
       by_cases hw:4294967296<=r'
       . have hw':(4294967296:Int)<=(r':Int):=by omega
         have hfin:g'=q1:=by rw[EQ1.out];exact hK2.wide HYY.out hynp hy0 hgC hw
         have HF:=hid hfin;have HK2:=hid hK2;clear hfin hK hK2;go_wp2_with fail;go_meet
         case rel=>rw[HF.out];exact⟨rfl,⟨r',rfl⟩,by first|rfl|trivial⟩
       . have hw':¬(4294967296:Int)<=(r':Int):=by omega
         have HK2:=hid hK2;clear hK hK2;go_wp2_with fail;go_roundw
         case rel=>
          first|exact⟨g',r',rfl,rfl,HK2.out,by omega,by first|rfl|trivial⟩|(refine⟨g',r',rfl,rfl,HK2.out,by omega,?_⟩;trace_state;rfl)
         case measure=>simp[intOf];have:=HG.out;omega
     . have hge':¬(4294967296:Int)<=(g:Int):=by omega
       obtain⟨p,ep⟩:∃t:Nat,t=g*y0:=⟨_,rfl⟩;obtain⟨c0,ec0⟩:∃t:Nat,t=4294967296*r0:=⟨_,rfl⟩;obtain⟨t0',et0⟩:∃t:Nat,t=c0+d1:=⟨_,rfl⟩
       have hpb:p<18446744073709551616:=by
        rw[ep];exact Nat.lt_of_le_of_lt (Nat.mul_le_mul (show g<=4294967295 by omega) (show y0<=4294967295 by omega)) (by omega)
       have wp:IntKind.u64.wrap ((g:Int)*(y0:Int))=(p:Int):=mD g y0 p ep hpb;have wc0:(4294967296:Int)*(r0:Int)=(c0:Int):=by omega
       have wt0:(c0:Int)+(d1:Int)=(t0':Int):=by omega
       have hc0b:c0<18446744073709551616:=by omega
       have ht0b:t0'<18446744073709551616:=by omega
       have hlt1:4294967296*r0+d1=t0':=by omega
       have EP:=hid ep;have EC:=hid ec0;have ET:=hid et0
       by_cases htp:t0'<p
       . have htp':(t0':Int)<(p:Int):=by omega
         have hlt:4294967296*r0+d1<g*y0:=by rw[hlt1,<-ep];exact htp
         clear ep ec0 et0 hlt1;obtain⟨hg0,hK2⟩:=hK.down HYY.out hynp hu2 hd1 (Or.inr hlt);obtain⟨g',eg'⟩:∃t:Nat,t=g-1:=⟨_,rfl⟩;obtain⟨r',er'⟩:∃t:Nat,t=r0+y1:=⟨_,rfl⟩;rw[<-eg',<-er']at hK2;have wg':(g:Int)-1=(g':Int):=by omega
         have wr':(r0:Int)+(y1:Int)=(r':Int):=by omega
         have hgb:g'<18446744073709551616:=by have:=hK2.le;omega
         have hrb:r'<18446744073709551616:=by omega
         have hgC:g'<=4294967296:=by have:=hK.le;omega
         have HG:=hid eg';have HR:=hid er';clear eg' er'
         by_cases hw:4294967296<=r'
         . have hw':(4294967296:Int)<=(r':Int):=by omega
           have hfin:g'=q1:=by rw[EQ1.out];exact hK2.wide HYY.out hynp hy0 hgC hw
           have HF:=hid hfin;have HK2:=hid hK2;clear hfin hK hK2;go_wp2_with fail;go_meet
           case rel=>rw[HF.out];exact⟨rfl,⟨r',rfl⟩,by first|rfl|trivial⟩
         . have hw':¬(4294967296:Int)<=(r':Int):=by omega
           have HK2:=hid hK2;clear hK hK2;go_wp2_with fail;go_roundw
           case rel=>
            first|exact⟨g',r',rfl,rfl,HK2.out,by omega,by first|rfl|trivial⟩|(refine⟨g',r',rfl,rfl,HK2.out,by omega,?_⟩;trace_state;rfl)
           case measure=>simp[intOf];have:=HG.out;omega
       . have htp':¬(t0':Int)<(p:Int):=by omega
         have hfin:g=q1:=by rw[EQ1.out];exact hK.stop HYY.out hynp (by rw[hlt1,<-ep];omega)
         have HF:=hid hfin;clear hfin hK ep ec0 et0 hlt1;go_wp2_with fail;go_meet
         case rel=>rw[HF.out];exact⟨rfl,⟨r0,rfl⟩,by first|rfl|trivial⟩
   case rest=>
    obtain⟨rfl,⟨rz0,rfl⟩,rfl⟩:=hcut
    rename World=>wz
    have hqC:q1<4294967296:=by
     rw[EQ1.out,Nat.div_lt_iff_lt_mul hynp];have h1:(u+1)*4294967296<=yn*4294967296:=Nat.mul_le_mul_right _ hu2;rw[Nat.mul_comm 4294967296 yn];omega
    have hu2l:u2<yn:=by rw[EU2.out];exact Nat.mod_lt _ hynp
    have hu2b:u2<18446744073709551616:=by omega
    obtain⟨p1,ep1⟩:∃p:Nat,p=u*4294967296%18446744073709551616:=⟨_,rfl⟩;obtain⟨p2,ep2⟩:∃p:Nat,p=(p1+d1)%18446744073709551616:=⟨_,rfl⟩;obtain⟨p3,ep3⟩:∃p:Nat,p=q1*yn%18446744073709551616:=⟨_,rfl⟩;have hp1b:p1<18446744073709551616:=by omega
    have hp2b:p2<18446744073709551616:=by omega
    have hp3b:p3<18446744073709551616:=by omega
    have wp1:IntKind.u64.wrap ((u:Int)*4294967296)=(p1:Int):=oI u 4294967296 p1 ep1;have wp2:IntKind.u64.wrap ((p1:Int)+(d1:Int))=(p2:Int):=by rw[ep2,<-iH,Int.natCast_add]
    have wp3:IntKind.u64.wrap ((q1:Int)*(yn:Int))=(p3:Int):=oI q1 yn p3 ep3;have wu2:IntKind.u64.wrap ((p2:Int)-(p3:Int))=(u2:Int):=iN p2 p3 u2 (uW u d1 q1 yn p1 p2 p3 u2 hyn hynp EQ1.out ep1 ep2 ep3 EU2.out) (by omega);have K2:=M.Kn.first (C:=4294967296) (u:=u2) (d:=d0) (by omega) HYY.out hd0 hu2l hy0 hy1;obtain⟨g2,eg2⟩:∃g:Nat,g=u2/y1:=⟨_,rfl⟩;obtain⟨r2,er2⟩:∃r:Nat,r=u2%y1:=⟨_,rfl⟩;rw[<-eg2,<-er2]at K2;have wg2:(u2:Int)/(y1:Int)=(g2:Int):=by rw[tK,<-eg2]
    have hr2l:r2<4294967296:=by rw[er2];have:=Nat.mod_lt u2 (show 0<y1 by omega);omega
    have hg2b:g2<18446744073709551616:=by have:=K2.le;omega
    have wm2:IntKind.u64.wrap ((g2:Int)*(y1:Int))=((g2*y1:Nat):Int):=mD g2 y1 _ rfl (by have:=K2.sum;omega);obtain⟨gy2,egy2⟩:∃t:Nat,t=g2*y1:=⟨_,rfl⟩;rw[<-egy2]at wm2;have ws2:(u2:Int)-(gy2:Int)=(r2:Int):=by have:=K2.sum;rw[<-egy2]at this;omega
    obtain⟨q0,eq0⟩:∃q:Nat,q=(u2*4294967296+d0)/yn:=⟨_,rfl⟩;obtain⟨hw1,hw2⟩:=M.IA hynp EQ1.out EU2.out eq0;obtain⟨t1',et1⟩:∃p:Nat,p=u2*4294967296%18446744073709551616:=⟨_,rfl⟩;obtain⟨t2',et2⟩:∃p:Nat,p=(t1'+d0)%18446744073709551616:=⟨_,rfl⟩;obtain⟨t3',et3⟩:∃p:Nat,p=q0*yn%18446744073709551616:=⟨_,rfl⟩;obtain⟨R2,eR2⟩:∃p:Nat,p=R*2^s:=⟨_,rfl⟩
    have hR3:R2=(u2*4294967296+d0)%yn:=by
     rw[hw2,eR2,HR2.out,HVV.out]
    have ht1b:t1'<18446744073709551616:=by omega
    have ht2b:t2'<18446744073709551616:=by omega
    have ht3b:t3'<18446744073709551616:=by omega
    have hR2b:R2<18446744073709551616:=by rw[hR3];have:=Nat.mod_lt (u2*4294967296+d0) hynp;omega
    have wt1:IntKind.u64.wrap ((u2:Int)*4294967296)=(t1':Int):=oI u2 4294967296 t1' et1;have wt2:IntKind.u64.wrap ((t1':Int)+(d0:Int))=(t2':Int):=by rw[et2,<-iH,Int.natCast_add]
    have wt3:IntKind.u64.wrap ((q0:Int)*(yn:Int))=(t3':Int):=oI q0 yn t3' et3;have wR2:IntKind.u64.wrap ((t2':Int)-(t3':Int))=(R2:Int):=iN t2' t3' R2 (uW u2 d0 q0 yn t1' t2' t3' R2 hyn hynp eq0 et1 et2 et3 hR3) (by omega);have wR:(R2:Int)/2^s=(R:Int):=by rw[fM,eR2,Nat.mul_div_cancel _ (Nat.pow_pos (by omega))]
    obtain⟨m1,em1⟩:∃p:Nat,p=q1*4294967296:=⟨_,rfl⟩;have wm1':(q1:Int)*4294967296=(m1:Int):=by omega
    have hm1b:m1<18446744073709551616:=by omega
    have hQ3:Q=m1+q0:=by rw[em1,hw1,HQ2.out,HVV.out]
    have wQ:(m1:Int)+(q0:Int)=(Q:Int):=by omega
    have hq0C:q0<4294967296:=by
     rw[eq0,Nat.div_lt_iff_lt_mul hynp];have h1:(u2+1)*4294967296<=yn*4294967296:=Nat.mul_le_mul_right _ hu2l;rw[Nat.mul_comm 4294967296 yn];omega
    have hQb:Q<18446744073709551616:=by omega
    have hRb:R<18446744073709551616:=by
     have h2:R*1<=R*2^s:=Nat.mul_le_mul_left _ (Nat.pow_pos (by omega));omega
    have HK2:=hid K2;have EQ0:=hid eq0;clear K2 eq0 hw1 hw2 et1 et2 et3 eR2 hR3 em1 hQ3 ep1 ep2 ep3 eg2 er2 egy2;go_upto_block 2 with fail
    go_cut[16,18] (fun r q wc=>q=.int .u64 (q0:Int)/\(∃r':Nat,r=.int .u64 (r':Int))/\wc=wz)
    case first=>
     go_wp2_with fail
     go_loopw [16,18] (fun r q wr=>∃(g r0:Nat),q=.int .u64 g/\r=.int .u64 r0/\M.Kn 4294967296 u2 d0 y1 y0 yn g r0/\r0<4294967296/\wr=wz) (fun _ q _=>(intOf q).toNat)
     case atStart=>exact⟨g2,r2,rfl,rfl,HK2.out,hr2l,rfl⟩
     case round=>
      obtain⟨g,r0,rfl,rfl,hK,hr0,rfl⟩:=hrel;have hgb0:g<18446744073709551616:=by have:=hK.le;omega
      by_cases hge:4294967296<=g
      . have hge':(4294967296:Int)<=(g:Int):=by omega
        obtain⟨hg0,hK2⟩:=hK.down HYY.out hynp hu2l hd0 (Or.inl hge);obtain⟨g',eg'⟩:∃t:Nat,t=g-1:=⟨_,rfl⟩;obtain⟨r',er'⟩:∃t:Nat,t=r0+y1:=⟨_,rfl⟩;rw[<-eg',<-er']at hK2;have wg':(g:Int)-1=(g':Int):=by omega
        have wr':(r0:Int)+(y1:Int)=(r':Int):=by omega
        have hgb:g'<18446744073709551616:=by have:=hK2.le;omega
        have hrb:r'<18446744073709551616:=by omega
        have hgC:g'<=4294967296:=by have:=hK.le;omega
        have HG:=hid eg';have HR:=hid er';clear eg' er'
        by_cases hw:4294967296<=r'
        . have hw':(4294967296:Int)<=(r':Int):=by omega
          have hfin:g'=q0:=by rw[EQ0.out];exact hK2.wide HYY.out hynp hy0 hgC hw
          have HF:=hid hfin;have HK2:=hid hK2;clear hfin hK hK2;go_wp2_with fail;go_meet
          case rel=>rw[HF.out];exact⟨rfl,⟨r',rfl⟩,by first|rfl|trivial⟩
        . have hw':¬(4294967296:Int)<=(r':Int):=by omega
          have HK2:=hid hK2;clear hK hK2;go_wp2_with fail;go_roundw
          case rel=>
           first|exact⟨g',r',rfl,rfl,HK2.out,by omega,by first|rfl|trivial⟩|(refine⟨g',r',rfl,rfl,HK2.out,by omega,?_⟩;trace_state;rfl)
          case measure=>simp[intOf];have:=HG.out;omega
      . have hge':¬(4294967296:Int)<=(g:Int):=by omega
        obtain⟨p,ep⟩:∃t:Nat,t=g*y0:=⟨_,rfl⟩;obtain⟨c0,ec0⟩:∃t:Nat,t=4294967296*r0:=⟨_,rfl⟩;obtain⟨t0',et0⟩:∃t:Nat,t=c0+d0:=⟨_,rfl⟩
        have hpb:p<18446744073709551616:=by
         rw[ep];exact Nat.lt_of_le_of_lt (Nat.mul_le_mul (show g<=4294967295 by omega) (show y0<=4294967295 by omega)) (by omega)
        have wp:IntKind.u64.wrap ((g:Int)*(y0:Int))=(p:Int):=mD g y0 p ep hpb;have wc0:(4294967296:Int)*(r0:Int)=(c0:Int):=by omega
        have wt0:(c0:Int)+(d0:Int)=(t0':Int):=by omega
        have hc0b:c0<18446744073709551616:=by omega
        have ht0b:t0'<18446744073709551616:=by omega
        have hlt1:4294967296*r0+d0=t0':=by omega
        have EP:=hid ep;have EC:=hid ec0;have ET:=hid et0
        by_cases htp:t0'<p
        . have htp':(t0':Int)<(p:Int):=by omega
          have hlt:4294967296*r0+d0<g*y0:=by rw[hlt1,<-ep];exact htp
          clear ep ec0 et0 hlt1;obtain⟨hg0,hK2⟩:=hK.down HYY.out hynp hu2l hd0 (Or.inr hlt);obtain⟨g',eg'⟩:∃t:Nat,t=g-1:=⟨_,rfl⟩;obtain⟨r',er'⟩:∃t:Nat,t=r0+y1:=⟨_,rfl⟩;rw[<-eg',<-er']at hK2;have wg':(g:Int)-1=(g':Int):=by omega
          have wr':(r0:Int)+(y1:Int)=(r':Int):=by omega
          have hgb:g'<18446744073709551616:=by have:=hK2.le;omega
          have hrb:r'<18446744073709551616:=by omega
          have hgC:g'<=4294967296:=by have:=hK.le;omega
          have HG:=hid eg';have HR:=hid er';clear eg' er'
          by_cases hw:4294967296<=r'
          . have hw':(4294967296:Int)<=(r':Int):=by omega
            have hfin:g'=q0:=by rw[EQ0.out];exact hK2.wide HYY.out hynp hy0 hgC hw
            have HF:=hid hfin;have HK2:=hid hK2;clear hfin hK hK2;go_wp2_with fail;go_meet
            case rel=>rw[HF.out];exact⟨rfl,⟨r',rfl⟩,by first|rfl|trivial⟩
          . have hw':¬(4294967296:Int)<=(r':Int):=by omega
            have HK2:=hid hK2;clear hK hK2;go_wp2_with fail;go_roundw
            case rel=>
             first|exact⟨g',r',rfl,rfl,HK2.out,by omega,by first|rfl|trivial⟩|(refine⟨g',r',rfl,rfl,HK2.out,by omega,?_⟩;trace_state;rfl)
            case measure=>simp[intOf];have:=HG.out;omega
        . have htp':¬(t0':Int)<(p:Int):=by omega
          have hfin:g=q0:=by rw[EQ0.out];exact hK.stop HYY.out hynp (by rw[hlt1,<-ep];omega)
          have HF:=hid hfin;clear hfin hK ep ec0 et0 hlt1;go_wp2_with fail;go_meet
          case rel=>rw[HF.out];exact⟨rfl,⟨r0,rfl⟩,by first|rfl|trivial⟩
    case rest=>
     obtain⟨rfl,⟨rz2,rfl⟩,rfl⟩:=hcut;go_wp2_with fail
     go_ret2
     exact⟨rfl,0,rfl⟩

theorem M.limb_step {T' T r x q r' d:Nat}{B:Nat}(h:T'*d+r=T)(hq:q*d+r'=r*B+x):(q+B*T')*d+r'=x+B*T:=by
 rw[<-h,Nat.add_mul,Nat.mul_add,Nat.mul_assoc,Nat.mul_comm B r];omega

theorem M.drop_take_set (cur:List Nat)(N k x:Nat)(hk:k<N)(hl:N<=cur.length):V (((cur.set k x).take N).drop k)=x+18446744073709551616*V ((cur.take N).drop (k+1)):=by
 rw[List.take_set,sS _ _ (by simp;omega),M.bQ _ _ _ (by simp;omega),List.drop_set_of_lt (by omega)]

theorem tS (g N cap d:Nat)(ao:Option Addr)(zs:List Nat)(w:World)(hao:0<N->ao=some ⟨g,0,none⟩)(hB:Blk w g zs)(hz:F64 zs)(ho:N<=zs.length)(hN:N<=4194304)(hd:0<d)(hdb:d<18446744073709551616):
 Calls Tryz.prog 166 #[.slice ao N cap,.int .u64 (d:Int)] w fun e w'=>e=.returned (.int .u64 ((V (zs.take N)%d:Nat):Int))/\w.grownBy w' (some g)/\∃cur,Blk w' g cur/\M.Wrote 18446744073709551616 zs 0 N cur/\V (cur.take N)=V (zs.take N)/d:=by
 go_enter Tryz.func166,Tryz.ntmps166;go_wp2_with fail
 go_loopw [5,6] (fun rs i wr=>∃(k:Nat)(cur:List Nat)(r:Nat),k<=N/\i=.int .i64 ((k:Int)-1)/\rs=.int .u64 (r:Int)/\r<d/\Blk wr g cur/\M.Wrote 18446744073709551616 zs 0 N cur/\w.grownBy wr (some g)/\(∀j,j<k->cur.getD j 0=zs.getD j 0)/\V ((cur.take N).drop k)*d+r=V ((zs.take N).drop k)) (fun _ i _=>(intOf i+1).toNat)
 case atStart=>
  refine⟨N,zs,0,by omega,by go_num,rfl,hd,hB,M.Wrote.refl hz _ _,World.grownBy.refl _ _,fun _ _=>rfl,?_⟩
  rw[List.drop_of_length_le (by rw[List.length_take];omega)];simp[V,M.val]
 case round=>
  obtain⟨k,cur,r,hk,rfl,rfl,hrd,hBk,hW,hg,hlow,hv⟩:=hrel;have HV:=hid hv;clear hv;have HL:=hid hlow;clear hlow
  by_cases hlt:0<k
  . obtain⟨k,rfl⟩:∃k',k=k'+1:=⟨k-1,by omega⟩;have e1:(((k+1:Nat):Int)-1)=(k:Int):=by omega
    rw[e1];have hao':=hao (by omega);have hcs:=hBk.cell k (by have:=hW.len;omega);have hfs:=hBk.frozen k;rw[HL.out k (by omega)]at hcs;have hx1:zs.getD k 0<18446744073709551616:=F64.get hz k;obtain⟨x,hxx⟩:∃x:Nat,x=zs.getD k 0:=⟨_,rfl⟩;rw[<-hxx]at hcs hx1;have HX:=hid hxx;clear hxx;have hge:(0:Int)<=(k:Int):=by omega
    have hlt2:(k:Int)<(N:Int):=by omega
    obtain⟨Q,hQ⟩:∃Q,Q=(r*18446744073709551616+x)/d:=⟨_,rfl⟩;obtain⟨R,hR⟩:∃R,R=(r*18446744073709551616+x)%d:=⟨_,rfl⟩;have hRd:R<d:=by rw[hR];exact Nat.mod_lt _ hd
    have hsum:Q*d+R=r*18446744073709551616+x:=by rw[hQ,hR,Nat.mul_comm];exact Nat.div_add_mod _ _
    have hQb:Q<18446744073709551616:=by
     rw[hQ,Nat.div_lt_iff_lt_mul hd];have h1:(r+1)*18446744073709551616<=d*18446744073709551616:=Nat.mul_le_mul_right _ hrd;rw[Nat.mul_comm 18446744073709551616 d];omega
    have EQ:=hid hQ;have ER:=hid hR;have ES:=hid hsum;clear hQ hR hsum;have HB:=hid hBk;clear hBk;have HG:=hid hg;clear hg;go_wp2_with fail;refine(uP r x d _ hx1 hdb hrd Q R EQ.out ER.out).mono ?_;rintro e v1 ⟨rfl,q1,hv1⟩;have hcs1:v1.cell? ⟨g,k,none⟩=some (.int .u64 (x:Int)):=by rw[hv1];exact hcs
    have hfs1:v1.frozen? ⟨g,k,none⟩=false:=by rw[hv1];exact hfs
    have hB1:Blk v1 g cur:=by rw[hv1];exact HB.out.drewN _
    have hg1:w.grownBy v1 (some g):=by rw[hv1];exact aA HG.out (cU _ _ _)
    clear hv1 hcs hfs;have HB1:=hid hB1;have HG1:=hid hg1;clear hB1 hg1;go_wp2_with fail;have hW3:=hW.set k Q (by omega) hQb;rw[Nat.zero_add]at hW3;go_roundw
    case rel=>
     have R:∃(k1:Nat)(cur1:List Nat)(r1:Nat),k1<=N/\Value.int .i64 ((k:Int)-1)=.int .i64 ((k1:Int)-1)/\Value.int .u64 (R:Int)=.int .u64 (r1:Int)/\r1<d/\Blk (v1.setCell ⟨g,k,none⟩ (.int .u64 (Q:Int))) g cur1/\M.Wrote 18446744073709551616 zs 0 N cur1/\w.grownBy (v1.setCell ⟨g,k,none⟩ (.int .u64 (Q:Int))) (some g)/\(∀j,j<k1->cur1.getD j 0=zs.getD j 0)/\V ((cur1.take N).drop k1)*d+r1=V ((zs.take N).drop k1):=by
      refine⟨k,cur.set k Q,R,by omega,rfl,rfl,hRd,HB1.out.set _ _ _ rfl,hW3,aA HG1.out (aD _ _ _ _),fun j hj=>?_,?_⟩
      . rw[M.bO _ _ _ _ (by omega)];exact HL.out j (by omega)
      . rw[M.drop_take_set _ _ _ _ (by omega) (by have:=hW.len;omega),sS (zs.take N) k (by simp;omega)];have e2:(zs.take N).getD k 0=x:=by rw[HX.out];simp[List.getD_eq_getElem?_getD,List.getElem?_take];rw[if_pos (by omega)]
        rw[e2];exact M.limb_step HV.out ES.out
     first|exact R|((repeat apply Exists.intro);exact⟨R,rfl⟩)|((repeat apply Exists.intro);exact⟨R,by rw[hao']⟩)
    case measure=>simp[intOf]<;>omega
  . have e:k=0:=by omega
    subst e;have HBk:=hid hBk;clear hBk;have HG:=hid hg;clear hg;have hge:¬(0:Int)<=((0:Nat):Int)-1:=by omega
    go_wp2_with fail;go_ret;have h1:=HV.out;simp only[List.drop_zero]at h1;have h2:V (zs.take N)%d=r:=by rw[<-h1,Nat.mul_comm,Nat.mul_add_mod,Nat.mod_eq_of_lt hrd]
    have h3:V (zs.take N)/d=V (cur.take N):=by rw[<-h1,Nat.mul_comm,Nat.mul_add_div hd,Nat.div_eq_of_lt hrd,Nat.add_zero]
    have h4:((V (zs.take N):Nat):Int)%(d:Int)=(r:Int):=by rw[<-Int.natCast_emod,h2]
    exact⟨by rw[h4];rfl,HG.out,cur,HBk.out,hW,h3.symm⟩

end Go.Proofs.YtfdgkleoaehjaaaGreatDoor
namespace Go.Proofs.YtfdgkleoaehjaaaGreatDoor.M
set_option linter.unusedVariables false
set_option maxRecDepth 100000

structure Es (B t s W x g l:Nat):Prop where
 sum:g*t+l=W
 lt:g<B
 ge:∀q,q<B->q*(t*B+s)<=W*B+x->q<=g
 small:l<2*B

theorem IW {B t s W x g l:Nat}(h:g*t+l=W):g*(t*B+s)+l*B=W*B+g*s:=by
 rw[<-h,Nat.mul_add,Nat.add_mul,Nat.mul_assoc];omega

theorem Es.start {B t s W x g l:Nat}(h:g*t+l=W)(hg:g<B)(hl:l<2*B)(hx:x<B)(hge:∀q,q<B->q*t<=W->q<=g):Es B t s W x g l:=by
 refine⟨h,hg,fun q hq h1=>hge q hq ?_,hl⟩
 have h2:q*t*B<=q*(t*B+s):=by rw[Nat.mul_add,Nat.mul_assoc];omega
 have h3:q*t*B<(W+1)*B:=by rw[Nat.add_mul];omega
 have:=Nat.lt_of_mul_lt_mul_right h3;omega

theorem Es.stop {B t s W x g l:Nat}(h:Es B t s W x g l)(hs:g*s<=l*B+x):g*(t*B+s)<=W*B+x:=by
 have:=IW (B:=B) (s:=s) (x:=x) h.sum;omega

theorem Es.wide {B t s W x g l:Nat}(h:Es B t s W x g l)(hs:s<B)(hl:B<=l):g*(t*B+s)<=W*B+x:=by
 refine h.stop ?_;have h1:g*s<=B*B:=Nat.mul_le_mul (Nat.le_of_lt h.lt) (Nat.le_of_lt hs);have h2:B*B<=l*B:=Nat.mul_le_mul_right _ hl;omega

theorem Es.down {B t s W x g l:Nat}(h:Es B t s W x g l)(ht:t<B)(hl:l<B)(hs:l*B+x<g*s):1<=g/\Es B t s W x (g-1) (l+t):=by
 have e:=IW (B:=B) (s:=s) (x:=x) h.sum
 have hg1:1<=g:=by
  rcases Nat.eq_zero_or_pos g with rfl|h0
  . simp at hs
  . exact h0
 refine⟨hg1,?_,by have:=h.lt;omega,fun q hq h1=>?_,by omega⟩
 . have:=h.sum;obtain⟨m,rfl⟩:∃m,g=m+1:=⟨g-1,by omega⟩;rw[Nat.add_sub_cancel];rw[Nat.add_mul,Nat.one_mul]at this;omega
 . have h2:=h.ge q hq h1;rcases Nat.lt_or_ge q g with h3|h3
   . omega
   . have:q=g:=by omega
     subst this;omega

theorem K6 {P D2 d0 W3 w0 q:Nat}(hw:w0<P)(h:q*(D2*P+d0)<=W3*P+w0):q*D2<=W3:=by
 have h2:q*D2*P<=q*(D2*P+d0):=by rw[Nat.mul_add,Nat.mul_assoc];omega
 have h3:q*D2*P<(W3+1)*P:=by rw[Nat.add_mul];omega
 have:=Nat.lt_of_mul_lt_mul_right h3;omega

theorem I4 {P D2 d0 W3 w0 m:Nat}(hd:d0<P)(hm:m<=D2)(h:(m+1)*D2<=W3):m*(D2*P+d0)<=W3*P+w0:=by
 have h1:m*(D2*P+d0)<=m*(D2*P+P):=Nat.mul_le_mul_left _ (by omega);have h2:m*(D2*P+P)=(m*D2+m)*P:=by rw[Nat.mul_add,<-Nat.mul_assoc,Nat.add_mul]
 have h3:(m*D2+m)*P<=W3*P:=Nat.mul_le_mul_right _ (by rw[Nat.add_mul]at h;omega);omega

theorem zO {S S1 c z Bn g D W q:Nat}(hW:W=S+Bn*z)(hs:S1+g*D=S+c*Bn)(hfit:c<=z)(hlt:∀q,q*D<=W->q<=g)(hD:0<D):
 S1+Bn*(z-c)+g*D=W/\S1+Bn*(z-c)<D:=by
 obtain⟨e,rfl⟩:∃e,z=c+e:=⟨z-c,by omega⟩;rw[Nat.add_sub_cancel_left];rw[Nat.mul_add,Nat.mul_comm Bn c]at hW;have e1:S1+Bn*e+g*D=W:=by omega
 refine⟨e1,?_⟩;rcases Nat.lt_or_ge (S1+Bn*e) D with h|h
 . exact h
 . have:=hlt (g+1) (by rw[Nat.add_mul];omega);omega

theorem AP {S S1 c z Bn g D W B S2 c2:Nat}(hW:W=S+Bn*z)(hs:S1+g*D=S+c*Bn)(hfit:z<c)(hcB:c<=B+z)(hS:S<Bn)(hS1:S1<Bn)(hg:(g-1)*D<=W)(hg1:1<=g)
 (h2:S2+c2*(Bn*B)=S1+Bn*(z+B-c)+D)(hS2:S2<Bn*B)(hDB:D<=Bn)(hD:0<D):S2+(g-1)*D=W/\S2<D:=by
 obtain⟨m,rfl⟩:∃m,g=m+1:=⟨g-1,by omega⟩;rw[Nat.add_sub_cancel]at*;rw[Nat.add_mul,Nat.one_mul]at hs;obtain⟨e,rfl⟩:∃e,B=e+(c-z):=⟨B-(c-z),by omega⟩;obtain⟨f,rfl⟩:∃f,c=z+f:=⟨c-z,by omega⟩;have e1:z+(e+(z+f-z))-(z+f)=e:=by omega
 have e3:z+f-z=f:=by omega
 rw[e1,e3]at h2;rw[e3]at hS2;rw[Nat.add_mul]at hs;rw[Nat.mul_add Bn e f]at h2 hS2;have hf:1<=f:=by omega
 have e4:Bn*f=f*Bn:=Nat.mul_comm _ _;have e5:Bn*z=z*Bn:=Nat.mul_comm _ _;rw[e4]at h2 hS2;rw[e5]at hW;have hfB:Bn<=f*Bn:=Nat.le_mul_of_pos_left _ hf
 have hc2:c2=1:=by
  rcases Nat.eq_zero_or_pos c2 with rfl|h0
  . simp only[Nat.zero_mul,Nat.add_zero]at h2;omega
  . rcases Nat.lt_or_ge c2 2 with h|h
    . omega
    . have h6:2*(Bn*e+f*Bn)<=c2*(Bn*e+f*Bn):=Nat.mul_le_mul_right _ h;omega
 subst hc2;rw[Nat.one_mul]at h2
 constructor<;>omega

theorem eI (B:Nat)(xs:List Nat)(off j:Nat):val B (seg xs off (j+1))=val B (seg xs off j)+B^j*xs.getD (off+j) 0:=by
 unfold seg;rw[aJ]
 congr 2
 simp[List.getD_eq_getElem?_getD]

theorem xE (P B S a b c:Nat):S+P*a+P*B*b+P*B*B*c=((c*B+b)*B+a)*P+S:=by
 have e1:P*B*b=b*B*P:=by rw[Nat.mul_comm (P*B) b,Nat.mul_comm P B,Nat.mul_assoc]
 have e2:P*B*B*c=c*B*B*P:=by rw[Nat.mul_comm (P*B*B) c,Nat.mul_comm P B,Nat.mul_comm (B*P) B,Nat.mul_assoc,Nat.mul_assoc]
 rw[e1,e2,Nat.add_mul,Nat.add_mul,Nat.add_mul,Nat.mul_comm P a];omega

theorem FT (P B S a b:Nat):S+P*a+P*B*b=(b*B+a)*P+S:=by
 have e1:P*B*b=b*B*P:=by rw[Nat.mul_comm (P*B) b,Nat.mul_comm P B,Nat.mul_assoc]
 rw[e1,Nat.add_mul,Nat.mul_comm P a];omega

theorem EI {B:Nat}(hB:1<B)(cur ys:List Nat)(p n2 N:Nat)(hc:∀x∈cur,x<B)(hy:∀x∈ys,x<B)(hl:cur.length=N)(hyl:ys.length=n2+2)(hp:p+(n2+2)+1<=N)(hlt:val B cur<val B ys*B^(p+1)):
 ∃S w0 d0 W:Nat,W=val B (seg cur p (n2+2+1))/\S=val B (seg cur p (n2+2))/\W=S+B^(n2+2)*cur.getD (p+(n2+2)) 0/\S<B^(n2+2)/\
  W=((cur.getD (p+(n2+2)) 0*B+cur.getD (p+(n2+1)) 0)*B+cur.getD (p+n2) 0)*B^n2+w0/\w0<B^n2/\
  val B ys=(ys.getD (n2+1) 0*B+ys.getD n2 0)*B^n2+d0/\d0<B^n2/\W<val B ys*B/\cur.getD (p+(n2+2)) 0<=ys.getD (n2+1) 0/\val B (cur.drop (p+(n2+2+1)))=0:=by
 have hPp:0<B^p:=Nat.pow_pos (by omega);have hP2:0<B^n2:=Nat.pow_pos (by omega);have s1:=eI B cur p (n2+2);have s2:=eI B cur p (n2+1);have s3:=eI B cur p n2;have y1:=aJ B ys (n2+1);have y2:=aJ B ys n2;rw[List.take_of_length_le (show ys.length<=n2+1+1 by omega)]at y1;have l0:=gJ hB (seg cur p n2) (wJ hc p n2);rw[cZ cur p n2 (by omega)]at l0;have l1:=gJ hB (seg cur p (n2+2)) (wJ hc p (n2+2));rw[cZ cur p (n2+2) (by omega)]at l1
 have l2:=gJ hB (ys.take n2) (fun x hx=>hy x (List.mem_of_mem_take hx))
 rw[show(ys.take n2).length=n2 by simp;omega]at l2;have ld:=gJ hB ys hy;rw[hyl]at ld;have hsp:=mA B cur p (n2+2+1) (by omega)
 have hW:val B (seg cur p (n2+2+1))<val B ys*B:=by
  have h1:val B (seg cur p (n2+2+1))*B^p<=val B cur:=by
   rw[hsp,Nat.mul_comm _ (B^p),Nat.mul_add];omega
  have h2:val B (seg cur p (n2+2+1))*B^p<val B ys*B*B^p:=by
   have h3:val B ys*B*B^p=val B ys*B^(p+1):=by rw[Nat.mul_assoc,Nat.pow_succ,Nat.mul_comm B]
   rw[h3];exact Nat.lt_of_le_of_lt h1 hlt
  exact Nat.lt_of_mul_lt_mul_right h2
 have hD:val B ys=(ys.getD (n2+1) 0*B+ys.getD n2 0)*B^n2+val B (ys.take n2):=by
  rw[y1,y2,Nat.pow_succ];exact FT _ _ _ _ _
 refine⟨_,_,_,_,rfl,rfl,s1,l1,?_,l0,hD,l2,hW,?_,?_⟩
 . rw[s1,s2,s3,Nat.pow_succ,Nat.pow_succ];exact xE _ _ _ _ _ _
 . generalize cur.getD (p+(n2+2)) 0=wn at*;generalize ys.getD (n2+1) 0=top at*;have hs:ys.getD n2 0<B:=bG hB hy _;generalize ys.getD n2 0=sec at*
   have h1:wn*(B^n2*B*B)<(top+1)*(B^n2*B*B):=by
    have h2:val B ys<(top*B+sec+1)*B^n2:=by rw[hD,Nat.add_mul (top*B+sec) 1];omega
    have h3:(top*B+sec+1)*B^n2<=(top+1)*B*B^n2:=Nat.mul_le_mul_right _ (by rw[Nat.add_mul top 1];omega);have h4:val B ys*B<(top+1)*B*B^n2*B:=Nat.mul_lt_mul_of_pos_right (by omega) (by omega)
    have h5:(top+1)*B*B^n2*B=(top+1)*(B^n2*B*B):=by
     rw[Nat.mul_assoc (top+1) B,Nat.mul_comm B (B^n2),Nat.mul_assoc (top+1)]
    have h6:wn*(B^n2*B*B)<=val B (seg cur p (n2+2+1)):=by
     rw[s1,Nat.pow_succ,Nat.pow_succ,Nat.mul_comm wn];omega
    omega
   have:=Nat.lt_of_mul_lt_mul_right h1;omega
 . rcases Nat.eq_zero_or_pos (val B (cur.drop (p+(n2+2+1))))with h|h
   . exact h
   . have h1:B^p*(B^(n2+2+1)*1)<=B^p*(B^(n2+2+1)*val B (cur.drop (p+(n2+2+1)))):=Nat.mul_le_mul_left _ (Nat.mul_le_mul_left _ h);have h2:B^p*(B^(n2+2+1)*1)<=val B cur:=by rw[hsp,Nat.mul_add];omega
     have h3:val B ys*B^(p+1)<B^(n2+2)*B^(p+1):=Nat.mul_lt_mul_of_pos_right ld (Nat.pow_pos (by omega))
     have h4:B^(n2+2)*B^(p+1)=B^p*(B^(n2+2+1)*1):=by
      rw[Nat.mul_one,<-Nat.pow_add,<-Nat.pow_add];congr 1;omega
     omega

theorem xK {B:Nat}(hB:1<B)(cur cur':List Nat)(p n1 N D Q A W W' q:Nat)(hl:cur.length=N)(hp:p+n1<=N)(hw:Wrote B cur p n1 cur')(hW:W=val B (seg cur p n1))(hW':W'=val B (seg cur' p n1))(h0:val B (cur.drop (p+n1))=0)
 (hq:W'+q*D=W)(hlt:W'<D)(hI:val B cur+D*(B^(p+1)*Q)=A):
 val B cur'+D*(B^p*(q+B*Q))=A/\val B cur'<D*B^p:=by
 have h1:=tW hw (by omega);rw[<-hW,<-hW']at h1;have hsp:=mA B cur' p n1 (by rw[hw.len];omega)
 rw[<-hW',qX cur' cur (p+n1) hw.len (fun j hj=>hw.out j (by omega)),h0,Nat.mul_zero,Nat.add_zero]at hsp
 have l0:=gJ hB (cur'.take p) (fun x hx=>hw.lt x (List.mem_of_mem_take hx))
 rw[show(cur'.take p).length=p by simp;rw[hw.len];omega]at l0
 constructor
 . have e1:D*(B^p*(q+B*Q))=B^p*(q*D)+D*(B^(p+1)*Q):=by
    rw[Nat.mul_add,Nat.mul_add,Nat.pow_succ,Nat.mul_assoc (B^p) B Q,Nat.mul_left_comm D,Nat.mul_comm D q]
   have e2:B^p*W=B^p*W'+B^p*(q*D):=by rw[<-hq,Nat.mul_add]
   rw[e1];omega
 . have h2:B^p*(W'+1)<=B^p*D:=Nat.mul_le_mul_left _ hlt;rw[Nat.mul_add,Nat.mul_one]at h2;rw[hsp,Nat.mul_comm D];omega

end Go.Proofs.YtfdgkleoaehjaaaGreatDoor.M
namespace Go.Proofs.YtfdgkleoaehjaaaGreatDoor
open Go.RowKit
set_option linter.unusedVariables false
set_option maxRecDepth 100000

theorem mH (x y:Nat)(w:World)(hx:x<18446744073709551616)(hy:y<18446744073709551616)(h l:Nat)(hh:h=x*y/18446744073709551616)(hl:l=x*y%18446744073709551616):
 Calls Tryz.prog 126 #[.int .u64 (x:Int),.int .u64 (y:Int)] w fun e w'=>e=.returned (.tuple #[.int .u64 (h:Int),.int .u64 (l:Int)])/\w'=w:=by
 subst hh hl;obtain⟨bd,bt,bw,hhi⟩:=Lib.mul64_hi x y hx hy;have ba:=Lib.half_mul_le (a:=x/4294967296) (b:=y/4294967296) (by omega) (by omega);have bb:=Lib.half_mul_le (a:=x/4294967296) (b:=y%4294967296) (by omega) (by omega);have bc:=Lib.half_mul_le (a:=x%4294967296) (b:=y/4294967296) (by omega) (by omega);have ba':x/4294967296*(y/4294967296)<18446744073709551616:=by omega
 have bb':x/4294967296*(y%4294967296)<18446744073709551616:=by omega
 have bc':x%4294967296*(y/4294967296)<18446744073709551616:=by omega
 have bh1:x/4294967296*(y/4294967296)+(x/4294967296*(y%4294967296)+x%4294967296*(y%4294967296)/4294967296)/4294967296<18446744073709551616:=by omega
 have bh:x/4294967296*(y/4294967296)+(x/4294967296*(y%4294967296)+x%4294967296*(y%4294967296)/4294967296)/4294967296+((x/4294967296*(y%4294967296)+x%4294967296*(y%4294967296)/4294967296)%4294967296+x%4294967296*(y/4294967296))/4294967296<18446744073709551616:=by omega
 go_enter Tryz.func126,Tryz.ntmps126
 go_wp2
 simp only[Mul64.maskN x hx,Mul64.maskN y hy,Mul64.divN,Mul64.mulN,Mul64.addN,Mul64.wrapN _ bd,Mul64.wrapN _ bb',Mul64.wrapN _ bt,Mul64.maskN _ bt,Mul64.wrapN _ bc',Mul64.wrapN _ bw,Mul64.wrapN _ ba',Mul64.wrapN _ bh1,Mul64.wrapN _ bh,Mul64.wrapM (x*y)];rw[hhi]
 go_ret2
 exact⟨rfl,rfl⟩

theorem lL (x y p:Nat)(hp:p=x+y)(hb:p<18446744073709551616):IntKind.u64.wrap ((x:Int)+(y:Int))=(p:Int):=
 fO x y p (by omega)

def D0 (w w':World)(g:Nat)(zs:List Nat)(off N:Nat)(t:Nat)(c:Nat):Prop:=
 w.grownBy w' (some g)/\c<18446744073709551616/\∃cur,Blk w' g cur/\M.Wrote 18446744073709551616 zs off N cur/\V (M.seg cur off N)+c*18446744073709551616^N=V (M.seg zs off N)+t

theorem tB (g off N cap:Nat)(ao bo:Option Addr)(d f:Nat)(zs ys:List Nat)(w:World)(hao:0<N->ao=some ⟨g,off,none⟩)(hB:Blk w g zs)(hz:F64 zs)(ho:off+N<=zs.length)(hN:N<=4194304)(hm:ys.length=N)(hy:F64 ys)(hf:f<18446744073709551616)(hr:Rd w bo ys)(hsep:0<ys.length->∀b2 o2,bo=some ⟨b2,o2,none⟩->b2≠g):
 Calls Tryz.prog 131 #[.slice ao N cap,.slice bo N d,.int .u64 (f:Int)] w fun e w'=>∃c:Nat,e=.returned (.int .u64 (c:Int))/\D0 w w' g zs off N (f*V ys) c:=by
 go_enter Tryz.func131,Tryz.ntmps131;go_wp2_with fail
 go_loopw [7,14] (fun cy i wr=>∃(k:Nat)(cur:List Nat)(c:Nat),k<=N/\i=.int .i64 k/\cy=.int .u64 c/\c<18446744073709551616/\Blk wr g cur/\M.Wrote 18446744073709551616 zs off N cur/\w.grownBy wr (some g)/\V (M.seg cur off N)+c*18446744073709551616^k=V (M.seg zs off N)+f*V (ys.take k)) (fun _ i _=>N-(intOf i).toNat)
 case atStart=>exact⟨0,zs,0,by omega,rfl,rfl,by omega,hB,M.Wrote.refl hz _ _,World.grownBy.refl _ _,by simp[V,M.val]⟩
 case round=>
  obtain⟨k,cur,c,hk,rfl,rfl,hc,hBk,hW,hg,hv⟩:=hrel;have HV:=hid hv;clear hv
  by_cases hlt:k<N
  . have hao':=hao (by omega);obtain⟨b2,o2,hbo,hcl⟩:=hr (by omega);have hck:wr.cell? ⟨b2,o2+k,none⟩=some (.int .u64 ((ys.getD k 0:Nat):Int)):=hg.cell (hcl k (by omega)) (by simpa using hsep (by omega) b2 o2 hbo);clear hcl;have hy1:=hy.get k;obtain⟨y,hyy⟩:∃y:Nat,y=ys.getD k 0:=⟨_,rfl⟩;rw[<-hyy]at hck hy1;have HY:=hid hyy;clear hyy;have hca:=hBk.cell (off+k) (by have:=hW.len;omega);have hfa:=hBk.frozen (off+k);have hx1:cur.getD (off+k) 0<18446744073709551616:=M.bG (by omega) hW.lt _;obtain⟨x,hxx⟩:∃x:Nat,x=cur.getD (off+k) 0:=⟨_,rfl⟩;rw[<-hxx]at hca hx1;have HX:=hid hxx;clear hxx;have hlt':(k:Int)<(N:Int):=by omega
    have HB:=hid hBk;clear hBk;have HG:=hid hg;clear hg;obtain⟨l2,r1,h2,o,r2,c',el2,er1,eh2,bh2,eo,er2,ec',bc',bo',hs⟩:=M.yK x y f c (y*f) rfl hx1 hy1 hf hc;obtain⟨hi,ehi⟩:∃h:Nat,h=y*f/18446744073709551616:=⟨_,rfl⟩;obtain⟨lo,elo⟩:∃h:Nat,h=y*f%18446744073709551616:=⟨_,rfl⟩;rw[<-elo]at el2;rw[<-ehi]at eh2;have w1:=fO lo c l2 el2;have w2:=lL hi r1 h2 eh2 bh2;have w3:=fO x l2 o eo;have w4:=lL h2 r2 c' ec' bc';have E1:=hid ehi;have E2:=hid elo;have E3:=hid er1;have E4:=hid er2;have E5:=hid hs;have E6:=hid bc';have E7:=hid bo';clear ehi elo er1 er2 hs bc' bo' el2 eh2 bh2 eo ec';go_wp2_with fail;refine(mH y f _ hy1 hf hi lo E1.out E2.out).mono ?_;rintro e v1 ⟨rfl,rfl⟩;go_wp2_with fail;refine(eL _ _ _ r1 E3.out).mono ?_;rintro e v2 ⟨rfl,rfl⟩;go_wp2_with fail;refine(eL _ _ _ r2 E4.out).mono ?_;rintro e w3' ⟨rfl,hw3⟩;have hB3:Blk w3' g (cur.set (off+k) o):=by rw[hw3];exact HB.out.set _ _ _ rfl
    have hg3:w.grownBy w3' (some g):=by rw[hw3];exact aA HG.out (aD _ _ _ _)
    have hW3:=hW.set k o (by omega) E7.out;have HB3:=hid hB3;clear hB3;have HG3:=hid hg3;clear hg3;clear hw3 hca hfa hck;go_wp2_with fail;go_roundw
    case rel=>
     have R:∃(k1:Nat)(cur1:List Nat)(c1:Nat),k1<=N/\Value.int .i64 ((k:Int)+1)=.int .i64 k1/\Value.int .u64 (c':Int)=.int .u64 c1/\c1<18446744073709551616/\Blk w3' g cur1/\M.Wrote 18446744073709551616 zs off N cur1/\w.grownBy w3' (some g)/\V (M.seg cur1 off N)+c1*18446744073709551616^k1=V (M.seg zs off N)+f*V (ys.take k1):=by
      refine⟨k+1,cur.set (off+k) o,c',by omega,by go_num,rfl,E6.out,HB3.out,hW3,HG3.out,?_⟩;unfold V;rw[M.aJ,<-HY.out,Nat.pow_succ];have h2:=M.iL 18446744073709551616 cur off N k o (by omega) (by have:=hW.len;omega);rw[<-HX.out]at h2;exact M.AL HV.out h2 E5.out
     first|exact R|((repeat apply Exists.intro);exact⟨R,rfl⟩)|((repeat apply Exists.intro);exact⟨R,by rw[hao',hbo]⟩)
    case measure=>simp[intOf];omega
  . have e:k=N:=by omega
    subst e;have HBk:=hid hBk;clear hBk;have HG:=hid hg;clear hg;go_wp2_with fail;go_ret;refine⟨c,rfl,HG.out,hc,cur,HBk.out,hW,?_⟩;have:=HV.out
    rwa[List.take_of_length_le (by omega)]at this

end Go.Proofs.YtfdgkleoaehjaaaGreatDoor
