import Derived.OwnWalk
import Derived.WalkMore
import Derived.Test.YtfdgkleoaehjaaaGreatDoorfGAG
set_option maxHeartbeats 4000000
set_option maxRecDepth 100000
namespace Go.Proofs.YtfdgkleoaehjaaaGreatDoor
open Go.RowKit
set_option linter.unusedVariables false
set_option maxRecDepth 100000

theorem M.less_place (x y f c p:Nat)(hp:p=y*f)(hx:x<18446744073709551616)(hy:y<18446744073709551616)(hf:f<18446744073709551616)(hc:c<18446744073709551616):
 ∃l2 r1 h2 o r2 c':Nat,l2=(p%18446744073709551616+c)%18446744073709551616/\r1=(if(l2:Int)<(c:Int)then 1 else 0)/\h2=p/18446744073709551616+r1/\h2<18446744073709551616/\
  o=(x+18446744073709551616-l2)%18446744073709551616/\r2=(if(x:Int)<(l2:Int)then 1 else 0)/\c'=h2+r2/\c'<18446744073709551616/\o<18446744073709551616/\l2<18446744073709551616/\o+p+c=x+18446744073709551616*c':=by
 have hb:p<=18446744073709551615*18446744073709551615:=by rw[hp];exact Nat.mul_le_mul (by omega) (by omega)
 refine⟨_,_,_,_,_,_,rfl,rfl,rfl,?_,rfl,rfl,rfl,?_,?_,?_,?_⟩
 . split<;>omega
 . split<;>split<;>omega
 . omega
 . omega
 . split<;>split<;>omega

theorem M.less_over {V V' V0 T c c' P B x y o f:Nat}(h:V+f*T=V0+c*P)(hv:V'+P*x=V+P*o)(hs:o+y*f+c=x+B*c'):V'+f*(T+P*y)=V0+c'*(P*B):=by
 have e:P*(o+y*f+c)=P*(x+B*c'):=by rw[hs]
 simp only[Nat.mul_add]at e|-;rw[Nat.mul_comm c' (P*B),Nat.mul_assoc];rw[Nat.mul_comm c P]at h;have e2:f*(P*y)=P*(y*f):=by rw[Nat.mul_comm f,Nat.mul_assoc]
 rw[e2];omega

def IQ (w w':World)(g:Nat)(zs:List Nat)(off N:Nat)(t:Nat)(c:Nat):Prop:=
 w.grownBy w' (some g)/\c<18446744073709551616/\∃cur,Blk w' g cur/\M.Wrote 18446744073709551616 zs off N cur/\V (M.seg cur off N)+t=V (M.seg zs off N)+c*18446744073709551616^N

theorem tA (g off N cap:Nat)(ao bo:Option Addr)(d f:Nat)(zs ys:List Nat)(w:World)(hao:0<N->ao=some ⟨g,off,none⟩)(hB:Blk w g zs)(hz:F64 zs)(ho:off+N<=zs.length)(hN:N<=4194304)(hm:ys.length=N)(hy:F64 ys)(hf:f<18446744073709551616)(hr:Rd w bo ys)(hsep:0<ys.length->∀b2 o2,bo=some ⟨b2,o2,none⟩->b2≠g):
 Calls Tryz.prog 187 #[.slice ao N cap,.slice bo N d,.int .u64 (f:Int)] w fun e w'=>∃c:Nat,e=.returned (.int .u64 (c:Int))/\IQ w w' g zs off N (f*V ys) c:=by
 go_enter Tryz.func187,Tryz.ntmps187;go_wp2_with fail
 go_loopw [7,14] (fun cy i wr=>∃(k:Nat)(cur:List Nat)(c:Nat),k<=N/\i=.int .i64 k/\cy=.int .u64 c/\c<18446744073709551616/\Blk wr g cur/\M.Wrote 18446744073709551616 zs off N cur/\w.grownBy wr (some g)/\V (M.seg cur off N)+f*V (ys.take k)=V (M.seg zs off N)+c*18446744073709551616^k) (fun _ i _=>N-(intOf i).toNat)
 case atStart=>exact⟨0,zs,0,by omega,rfl,rfl,by omega,hB,M.Wrote.refl hz _ _,World.grownBy.refl _ _,by simp[V,M.val]⟩
 case round=>
  obtain⟨k,cur,c,hk,rfl,rfl,hc,hBk,hW,hg,hv⟩:=hrel;have HV:=hid hv;clear hv
  by_cases hlt:k<N
  . have hao':=hao (by omega);obtain⟨b2,o2,hbo,hcl⟩:=hr (by omega);have hck:wr.cell? ⟨b2,o2+k,none⟩=some (.int .u64 ((ys.getD k 0:Nat):Int)):=hg.cell (hcl k (by omega)) (by simpa using hsep (by omega) b2 o2 hbo);clear hcl;have hy1:=hy.get k;obtain⟨y,hyy⟩:∃y:Nat,y=ys.getD k 0:=⟨_,rfl⟩;rw[<-hyy]at hck hy1;have HY:=hid hyy;clear hyy;have hca:=hBk.cell (off+k) (by have:=hW.len;omega);have hfa:=hBk.frozen (off+k);have hx1:cur.getD (off+k) 0<18446744073709551616:=M.bG (by omega) hW.lt _;obtain⟨x,hxx⟩:∃x:Nat,x=cur.getD (off+k) 0:=⟨_,rfl⟩;rw[<-hxx]at hca hx1;have HX:=hid hxx;clear hxx;have hlt':(k:Int)<(N:Int):=by omega
    have HB:=hid hBk;clear hBk;have HG:=hid hg;clear hg;obtain⟨l2,r1,h2,o,r2,c',el2,er1,eh2,bh2,eo,er2,ec',bc',bo',bl2,hs⟩:=M.less_place x y f c (y*f) rfl hx1 hy1 hf hc;obtain⟨hi,ehi⟩:∃h:Nat,h=y*f/18446744073709551616:=⟨_,rfl⟩;obtain⟨lo,elo⟩:∃h:Nat,h=y*f%18446744073709551616:=⟨_,rfl⟩;rw[<-elo]at el2;rw[<-ehi]at eh2;have w1:=fO lo c l2 el2;have w2:=lL hi r1 h2 eh2 bh2;have w3:=iN x l2 o eo (by omega);have w4:=lL h2 r2 c' ec' bc';have E1:=hid ehi;have E2:=hid elo;have E3:=hid er1;have E4:=hid er2;have E5:=hid hs;have E6:=hid bc';have E7:=hid bo';clear ehi elo er1 er2 hs bc' bo' el2 eh2 bh2 eo ec';go_wp2_with fail;refine(mH y f _ hy1 hf hi lo E1.out E2.out).mono ?_;rintro e v1 ⟨rfl,rfl⟩;go_wp2_with fail;refine(eL _ _ _ r1 E3.out).mono ?_;rintro e v2 ⟨rfl,rfl⟩;go_wp2_with fail;refine(eL _ _ _ r2 E4.out).mono ?_;rintro e w3' ⟨rfl,rfl⟩;go_wp2_with fail;have hW3:=hW.set k o (by omega) E7.out;go_roundw
    case rel=>
     have R:∃(k1:Nat)(cur1:List Nat)(c1:Nat),k1<=N/\Value.int .i64 ((k:Int)+1)=.int .i64 k1/\Value.int .u64 (c':Int)=.int .u64 c1/\c1<18446744073709551616/\Blk (w3'.setCell ⟨g,off+k,none⟩ (.int .u64 (o:Int))) g cur1/\M.Wrote 18446744073709551616 zs off N cur1/\w.grownBy (w3'.setCell ⟨g,off+k,none⟩ (.int .u64 (o:Int))) (some g)/\V (M.seg cur1 off N)+f*V (ys.take k1)=V (M.seg zs off N)+c1*18446744073709551616^k1:=by
      refine⟨k+1,cur.set (off+k) o,c',by omega,by go_num,rfl,E6.out,HB.out.set _ _ _ rfl,hW3,aA HG.out (aD _ _ _ _),?_⟩;unfold V;rw[M.aJ,<-HY.out,Nat.pow_succ];have h2:=M.iL 18446744073709551616 cur off N k o (by omega) (by have:=hW.len;omega);rw[<-HX.out]at h2;exact M.less_over HV.out h2 E5.out
     first|exact R|((repeat apply Exists.intro);exact⟨R,rfl⟩)|((repeat apply Exists.intro);exact⟨R,by rw[hao',hbo]⟩)
    case measure=>simp[intOf];omega
  . have e:k=N:=by omega
    subst e;have HBk:=hid hBk;clear hBk;have HG:=hid hg;clear hg;go_wp2_with fail;go_ret;refine⟨c,rfl,HG.out,hc,cur,HBk.out,hW,?_⟩;have:=HV.out
    rwa[List.take_of_length_le (by omega)]at this

theorem M.est_ge {hi lo top q g:Nat}(ht:0<top)(hg:g=(hi*18446744073709551616+lo)/top)(h:q*top<=hi*18446744073709551616+lo):q<=g:=by
 rw[hg];exact(Nat.le_div_iff_mul_le ht).2 h

def xU (hi lo top:Nat):Nat:=if hi<top then(hi*18446744073709551616+lo)/top else 18446744073709551615

def qQ (hi lo top:Nat):Nat:=if hi<top then(hi*18446744073709551616+lo)%top else lo+top

theorem EL (hi lo top:Nat)(hlo:lo<18446744073709551616)(htb:top<18446744073709551616)(ht:9223372036854775808<=top)(hht:hi<=top):
 xU hi lo top*top+qQ hi lo top=hi*18446744073709551616+lo/\xU hi lo top<18446744073709551616/\qQ hi lo top<2*18446744073709551616/\∀q,q<18446744073709551616->q*top<=hi*18446744073709551616+lo->q<=xU hi lo top:=by
 unfold xU qQ;split
 . next h=>
   refine⟨by rw[Nat.mul_comm];exact Nat.div_add_mod _ _,?_,by have:=Nat.mod_lt (hi*18446744073709551616+lo) (show 0<top by omega);omega,fun q _ h=>M.est_ge (by omega) rfl h⟩
   rw[Nat.div_lt_iff_lt_mul (by omega)];have h1:(hi+1)*18446744073709551616<=top*18446744073709551616:=Nat.mul_le_mul_right _ h;rw[Nat.mul_comm 18446744073709551616 top];omega
 . next h=>
   have e:hi=top:=by omega
   subst e
   exact⟨by omega,by omega,by omega,fun q h _=>by omega⟩

theorem wI (hi lo top:Nat)(w:World)(hlo:lo<18446744073709551616)(htb:top<18446744073709551616)(ht:9223372036854775808<=top)(hht:hi<=top)(g l':Nat)(sm:Bool)(hg:g=xU hi lo top)(hl':l'=qQ hi lo top%18446744073709551616)(hsm:sm=decide (qQ hi lo top<18446744073709551616)):
 Calls Tryz.prog 186 #[.int .u64 (hi:Int),.int .u64 (lo:Int),.int .u64 (top:Int)] w fun e w'=>e=.returned (.tuple #[.int .u64 (g:Int),.int .u64 (l':Int),.bool sm])/\∃q,w'=w.drewN q:=by
 by_cases hlt:hi<top
 . have hlt':¬(top:Int)<=(hi:Int):=by omega
   have hQ:g=(hi*18446744073709551616+lo)/top:=by rw[hg];unfold xU;rw[if_pos hlt]
   have hR0:qQ hi lo top=(hi*18446744073709551616+lo)%top:=by unfold qQ;rw[if_pos hlt]
   have hRt:=Nat.mod_lt (hi*18446744073709551616+lo) (show 0<top by omega);rw[<-hR0]at hRt;rw[Nat.mod_eq_of_lt (by omega),hR0]at hl';have hsm':sm=true:=by rw[hsm];exact decide_eq_true (by omega)
   rw[hsm'];have EQ:=hid hQ;have ER:=hid hl';clear hQ hR0 hRt hl' hsm hsm' hg;go_enter Tryz.func186,Tryz.ntmps186;go_wp2_with fail;refine(uP hi lo top _ hlo htb hlt g l' EQ.out ER.out).mono ?_;rintro e w1 ⟨rfl,q1,rfl⟩;go_wp2_with fail
   go_ret3
   exact⟨rfl,_,rfl⟩
 . have e:hi=top:=by omega
   subst e;have hlt':(hi:Int)<=(hi:Int):=by omega
   have hg':g=18446744073709551615:=by rw[hg];unfold xU;rw[if_neg hlt]
   have hl0:qQ hi lo hi=lo+hi:=by unfold qQ;rw[if_neg hlt]
   rw[hl0]at hl' hsm;rw[hg'];have hmod:((lo:Int)+(hi:Int))%18446744073709551616=(l':Int):=by omega
   have e1:sm=decide ((hi:Int)<=((lo:Int)+(hi:Int))%18446744073709551616):=by
    rw[hsm];congr 1;apply propext;omega
   have HM:=hid hmod;have E1:=hid e1;clear hg hg' hl0 hl' hsm hmod e1;go_enter Tryz.func186,Tryz.ntmps186;go_wp2_with fail
   go_ret3
   refine⟨?_,0,rfl⟩;rw[E1.out,<-HM.out]
   rfl

def vM (w w':World)(g:Nat)(zs:List Nat)(off N:Nat)(t:Nat):Prop:=
 w.grownBy w' (some g)/\∃cur c,Blk w' g cur/\M.Wrote 18446744073709551616 zs off N cur/\c<=1/\V (M.seg cur off N)+c*18446744073709551616^N=V (M.seg zs off N)+t

theorem pJ (g off N cap:Nat)(bo:Option Addr)(m d:Nat)(zs ys:List Nat)(w:World)(hB:Blk w g zs)(hz:F64 zs)(ho:off+N<=zs.length)(hN:N<=4194304)(hm:ys.length=m)(hmN:m<=N)(hy:F64 ys)(hr:Rd w bo ys)(hsep:0<ys.length->∀b2 o2,bo=some ⟨b2,o2,none⟩->b2≠g):
 Calls Tryz.prog 139 #[.slice (some ⟨g,off,none⟩) N cap,.slice bo m d] w fun e w'=>e=.returned (.tuple #[])/\vM w w' g zs off N (V ys):=by
 go_enter Tryz.func139,Tryz.ntmps139;go_wp2_with fail
 go_loopw [4,11] (fun cy i wr=>∃(k:Nat)(cur:List Nat)(c:Nat),k<=m/\i=.int .i64 k/\cy=.int .u64 c/\c<=1/\Blk wr g cur/\M.Wrote 18446744073709551616 zs off N cur/\w.grownBy wr (some g)/\V (M.seg cur off N)+c*18446744073709551616^k=V (M.seg zs off N)+V (ys.take k)) (fun _ i _=>m-(intOf i).toNat)
 case atStart=>exact⟨0,zs,0,by omega,rfl,rfl,by omega,hB,M.Wrote.refl hz _ _,World.grownBy.refl _ _,by simp[V,M.val]⟩
 case round=>
  obtain⟨k,cur,c,hk,rfl,rfl,hc,hBk,hW,hg,hv⟩:=hrel;have HV:=hid hv;clear hv
  by_cases hlt:k<m
  . obtain⟨b2,o2,hbo,hcl⟩:=hr (by omega);have hck:wr.cell? ⟨b2,o2+k,none⟩=some (.int .u64 ((ys.getD k 0:Nat):Int)):=hg.cell (hcl k (by omega)) (by simpa using hsep (by omega) b2 o2 hbo);clear hcl;have hy1:=hy.get k;obtain⟨y,hyy⟩:∃y:Nat,y=ys.getD k 0:=⟨_,rfl⟩;rw[<-hyy]at hck hy1;have HY:=hid hyy;clear hyy;have hca:=hBk.cell (off+k) (by have:=hW.len;omega);have hfa:=hBk.frozen (off+k);have hx1:cur.getD (off+k) 0<18446744073709551616:=M.bG (by omega) hW.lt _;obtain⟨x,hxx⟩:∃x:Nat,x=cur.getD (off+k) 0:=⟨_,rfl⟩;rw[<-hxx]at hca hx1;have HX:=hid hxx;clear hxx;have hlt':(k:Int)<(m:Int):=by omega
    have hlt2:(k:Int)<(N:Int):=by omega
    have HB:=hid hBk;clear hBk;have HG:=hid hg;clear hg;obtain⟨p,hp⟩:∃p:Nat,p=(x+y)%18446744073709551616:=⟨_,rfl⟩;have hwp:=fO x y p hp;obtain⟨o,hoo⟩:∃o:Nat,o=(p+c)%18446744073709551616:=⟨_,rfl⟩;have hwo:=fO p c o hoo;obtain⟨r1,hr1⟩:∃r:Nat,r=if(p:Int)<(y:Int)then 1 else 0:=⟨_,rfl⟩;obtain⟨r2,hr2⟩:∃r:Nat,r=if(o:Int)<(c:Int)then 1 else 0:=⟨_,rfl⟩
    have hsum:o+18446744073709551616*(r1+r2)=x+y+c/\r1+r2<=1/\o<18446744073709551616:=by
     split at hr1<;>split at hr2<;>omega
    have hle1:r1<=1:=by omega
    have hle2:r2<=1:=by omega
    have HP:=hid hp;clear hp;have HO:=hid hoo;clear hoo;have HR1:=hid hr1;clear hr1;have HR2:=hid hr2;clear hr2;have HS:=hid hsum;clear hsum;go_wp2_with fail;generalize hwy:wr.setCell ⟨g,off+k,none⟩ (.int .u64 (o:Int))=wy;have hBy:Blk wy g (cur.set (off+k) o):=by rw[<-hwy];exact HB.out.set _ _ _ rfl
    have hgy:w.grownBy wy (some g):=by rw[<-hwy];exact aA HG.out (aD _ _ _ _)
    have hWy:=hW.set k o (by omega) HS.out.2.2;have hcy:=hBy.cell (off+k) (by rw[List.length_set];have:=hW.len;omega);rw[M.bQ _ _ _ (by have:=hW.len;omega)]at hcy;have HBy:=hid hBy;clear hBy;have HGy:=hid hgy;clear hgy;clear hwy hca hfa hck
    go_quiet((first|(go_at_call_of 106 p;exact Calls.quiet_of_same (eL _ _ _ r1 HR1.out))|(go_at_call_of 106 o;exact Calls.quiet_of_same (eL _ _ _ r2 HR2.out))))
    go_wp2_with fail;go_roundw
    case rel=>
     have R:∃(k1:Nat)(cur1:List Nat)(c1:Nat),k1<=m/\Value.int .i64 ((k:Int)+1)=.int .i64 k1/\Value.int .u64 ((r1:Int)+(r2:Int))=.int .u64 c1/\c1<=1/\Blk (wy.drewN nq) g cur1/\M.Wrote 18446744073709551616 zs off N cur1/\w.grownBy (wy.drewN nq) (some g)/\V (M.seg cur1 off N)+c1*18446744073709551616^k1=V (M.seg zs off N)+V (ys.take k1):=by
      refine⟨k+1,cur.set (off+k) o,r1+r2,by omega,by go_num,by go_num,HS.out.2.1,HBy.out.drewN _,hWy,aA HGy.out (cU _ _ _),?_⟩;unfold V;rw[M.aJ,<-HY.out,Nat.pow_succ];have h2:=M.iL 18446744073709551616 cur off N k o (by omega) (by have:=hW.len;omega);rw[<-HX.out]at h2;exact M.yI HV.out h2 HS.out.1
     first|exact R|((repeat apply Exists.intro);exact⟨R,rfl⟩)|((repeat apply Exists.intro);exact⟨R,by rw[hbo]⟩)
    case measure=>simp[intOf];omega
  . have e:k=m:=by omega
    subst e
    have hv:V (M.seg cur off N)+c*18446744073709551616^k=V (M.seg zs off N)+V ys:=by
     have:=HV.out
     rwa[List.take_of_length_le (by omega)]at this
    clear HV;have HBk:=hid hBk;clear hBk;have HG:=hid hg;clear hg;have HV:=hid hv;clear hv;obtain⟨wo,hwo⟩:∃wo:World,wo=wr:=⟨_,rfl⟩;rw[<-hwo]at HBk HG|-;clear hwo;go_wp2_with fail
    go_loopw [4,8] (fun cy i wr=>∃(j:Nat)(cur:List Nat)(c:Nat),j<=N/\i=.int .i64 j/\cy=.int .u64 c/\c<=1/\Blk wr g cur/\M.Wrote 18446744073709551616 zs off N cur/\w.grownBy wr (some g)/\V (M.seg cur off N)+c*18446744073709551616^j=V (M.seg zs off N)+V ys) (fun _ i _=>N-(intOf i).toNat)
    case atStart=>exact⟨k,cur,c,by omega,rfl,rfl,hc,HBk.out,hW,HG.out,HV.out⟩
    case round=>
     clear HBk HG HV hW hc;obtain⟨j,cur2,c2,hj,rfl,rfl,hc,hBk,hW,hg,hv⟩:=hrel;have HV:=hid hv;clear hv
     by_cases hcc:c2=0
     . subst hcc;have hgt:¬(0:Int)<((0:Nat):Int):=by omega
       have HBk:=hid hBk;clear hBk;have HG:=hid hg;clear hg;go_wp2_with fail
       go_end0
       refine⟨rfl,HG.out,cur2,0,HBk.out,hW,by omega,?_⟩;have:=HV.out
       simpa using this
     . have hc1:c2=1:=by omega
       have hc0:(0:Int)<(c2:Int):=by omega
       have HC1:=hid hc1;clear hc1
       by_cases hlt:j<N
       . have hca:=hBk.cell (off+j) (by have:=hW.len;omega);have hfa:=hBk.frozen (off+j);have hx1:cur2.getD (off+j) 0<18446744073709551616:=M.bG (by omega) hW.lt _;obtain⟨x,hxx⟩:∃x:Nat,x=cur2.getD (off+j) 0:=⟨_,rfl⟩;rw[<-hxx]at hca hx1;have HX:=hid hxx;clear hxx;have hlt2:(j:Int)<(N:Int):=by omega
         obtain⟨o,hoo⟩:∃o:Nat,o=(x+c2)%18446744073709551616:=⟨_,rfl⟩;have hwo:=fO x c2 o hoo;obtain⟨r2,hr2⟩:∃r:Nat,r=if(o:Int)<(c2:Int)then 1 else 0:=⟨_,rfl⟩
         have hsum:o+18446744073709551616*r2=x+0+c2/\r2<=1/\o<18446744073709551616:=by
          split at hr2<;>omega
         have HO:=hid hoo;clear hoo;have HR2:=hid hr2;clear hr2;have HS:=hid hsum;clear hsum;have HB:=hid hBk;clear hBk;have HG:=hid hg;clear hg;go_wp2_with fail;refine(eL _ _ _ r2 HR2.out).mono ?_;rintro e w3 ⟨rfl,hw3⟩;have hB3:Blk w3 g (cur2.set (off+j) o):=by rw[hw3];exact HB.out.set _ _ _ rfl
         have hg3:w.grownBy w3 (some g):=by rw[hw3];exact aA HG.out (aD _ _ _ _)
         have hW3:=hW.set j o (by omega) HS.out.2.2;have HB3:=hid hB3;clear hB3;have HG3:=hid hg3;clear hg3;clear hw3 hca hfa;go_wp2_with fail;go_roundw
         case rel=>
          have R:∃(j1:Nat)(cur1:List Nat)(c1:Nat),j1<=N/\Value.int .i64 ((j:Int)+1)=.int .i64 j1/\Value.int .u64 (r2:Int)=.int .u64 c1/\c1<=1/\Blk w3 g cur1/\M.Wrote 18446744073709551616 zs off N cur1/\w.grownBy w3 (some g)/\V (M.seg cur1 off N)+c1*18446744073709551616^j1=V (M.seg zs off N)+V ys:=by
           refine⟨j+1,cur2.set (off+j) o,r2,by omega,by go_num,rfl,HS.out.2.1,HB3.out,hW3,HG3.out,?_⟩;unfold V;rw[Nat.pow_succ];have h2:=M.iL 18446744073709551616 cur2 off N j o (by omega) (by have:=hW.len;omega);rw[<-HX.out]at h2;exact M.yI (y:=0) HV.out h2 HS.out.1
          first|exact R|((repeat apply Exists.intro);exact⟨R,rfl⟩)
         case measure=>simp[intOf];omega
       . have hlt2:¬(j:Int)<(N:Int):=by omega
         have e:j=N:=by omega
         subst e;have HBk:=hid hBk;clear hBk;have HG:=hid hg;clear hg;go_wp2_with fail
         go_end0
         exact⟨rfl,HG.out,cur2,c2,HBk.out,hW,by omega,HV.out⟩

def L3 (w w':World)(g:Nat)(N M:Nat)(A D:Nat):Prop:=
 w.grownBy w' (some g)/\∃qs cur,Blk w' w.heap.size qs/\qs.length=M/\F64 qs/\V qs=A/D/\Blk w' g cur/\cur.length=N/\F64 cur/\V cur=A%D

theorem F64.set {xs:List Nat}(h:F64 xs)(i:Nat){x:Nat}(hx:x<18446744073709551616):F64 (xs.set i x):=by
 intro v hv;rcases List.mem_or_eq_of_mem_set hv with hv|rfl
 . exact h v hv
 . exact hx

theorem oK {w w1:World}{row:Option Nat}(h:w.grownBy w1 row)(gq i:Nat)(v:Value)(hq:w.heap.size<=gq):w.grownBy (w1.setCell ⟨gq,i,none⟩ v) row:=
 ⟨h.os,h.tape,h.output,by simp[World.setCell];exact h.size,fun k hk hne=>(Below.heap_setCell _ _ _ _ (by simp;omega)).trans (h.block k hk hne)⟩

theorem EG (g N n Mq:Nat)(bo:Option Addr)(d:Nat)(zs ys:List Nat)(w:World)(hB:Blk w g zs)(hz:F64 zs)(hN:zs.length=N)(hNb:N<=2097152)(hm:ys.length=n)(hn2:2<=n)(hMN:N=n+Mq)(hM1:1<=Mq)(hy:F64 ys)(hr:Rd w bo ys)(hsep:0<ys.length->∀b2 o2,bo=some ⟨b2,o2,none⟩->b2≠g)(htop:9223372036854775808<=ys.getD (n-1) 0)(hlt:V zs<V ys*18446744073709551616^Mq):
 Calls Tryz.prog 168 #[.slice (some ⟨g,0,none⟩) N N,.slice bo n d] w fun e w'=>e=.returned (.slice (some ⟨w.heap.size,0,none⟩) Mq Mq)/\L3 w w' g N Mq (V zs) (V ys):=by
 obtain⟨i0,hi,hz0,hz1,hz2⟩:=info_parts Tryz.infoU
 have hmk:=fun(wx:World)=>run_make (P:=Tryz.prog) wx 87 25 i0 (.int .u64 0) Tryz.underlying87 hi hz0 .i64 .i64 ((Mq:Nat):Int) ((Mq:Nat):Int) (by omega) (Int.le_refl _) (by rw[hz2];omega) (by omega)
 have et:((Mq:Nat):Int).toNat=Mq:=by omega
 rw[et]at hmk;clear et;have hNM:(N:Int)-(n:Int)=(Mq:Int):=by omega
 obtain⟨b2,o2,hbo,hcl⟩:=hr (by omega);have hb2:b2≠g:=hsep (by omega) b2 o2 hbo;subst hbo;have htc:=hcl (n-1) (by omega);have hsc:=hcl (n-2) (by omega);have htb:ys.getD (n-1) 0<18446744073709551616:=F64.get hy _;have hsb:ys.getD (n-2) 0<18446744073709551616:=F64.get hy _;obtain⟨top,etop⟩:∃t,t=ys.getD (n-1) 0:=⟨_,rfl⟩;obtain⟨sec,esec⟩:∃t,t=ys.getD (n-2) 0:=⟨_,rfl⟩;rw[<-etop]at htc htop htb;rw[<-esec]at hsc hsb;have hg:=hB.lt;have hsep':∀b3 o3,some (⟨b2,o2,none⟩:Addr)=some ⟨b3,o3,none⟩->b3≠g:=by intro b3 o3 h;cases h;exact hb2
 have HLT:=hid hlt;have ETOP:=hid etop;have ESEC:=hid esec;obtain⟨n1,en1⟩:∃t,t=n-1:=⟨_,rfl⟩;obtain⟨n2,en2⟩:∃t,t=n-2:=⟨_,rfl⟩;rw[<-en1]at htc;rw[<-en2]at hsc;have i1:(n:Int)-1=(n1:Int):=by omega
 have i2:(n:Int)-2=(n2:Int):=by omega
 have j1:(n1:Int)<(n:Int):=by omega
 have j2:(n2:Int)<(n:Int):=by omega
 have EN1:=hid en1;have EN2:=hid en2;have HMN:=hid hMN;clear en1 en2 hMN;clear hlt etop esec hcl;go_enter Tryz.func168,Tryz.ntmps168
 ((go_wp2_with fail);repeat(go_step3;go_wp2_with fail))
 go_quiet(fail)
 ((go_wp2_with fail);repeat(go_step3;go_wp2_with fail))
 obtain⟨gq,egq⟩:∃gq,gq=w.heap.size:=⟨_,rfl⟩;have EGQ:=hid egq;have hgq:g≠gq:=by omega
 have hb2q:b2<gq:=by
  have:b2<w.heap.size:=World.block_lt_of_cell? w _ htc;omega
 go_loopw [9] (fun i wr=>∃(k:Nat)(qs cur:List Nat),k<=Mq/\i=.int .i64 ((k:Int)-1)/\Blk wr w.heap.size qs/\qs.length=Mq/\F64 qs/\Blk wr g cur/\cur.length=N/\F64 cur/\w.grownBy wr (some g)/\V cur+V ys*(18446744073709551616^k*V (qs.drop k))=V zs/\V cur<V ys*18446744073709551616^k) (fun i _=>(intOf i+1).toNat)
 case atStart=>
  refine⟨Mq,List.replicate Mq 0,zs,by omega,by go_num,fL _ Mq,by simp,fun x hx=>by simp at hx;omega,?_,hN,hz,?_,?_,HLT.out⟩
  . exact(hB.drewN _).keep ((Below.refl _ _).alloc (Nat.le_refl _) _)
  . exact aA (cU _ _ _) (World.grownBy_alloc _ _ _)
  . rw[List.drop_of_length_le (by simp)];simp[V,M.val]
 case round=>
  obtain⟨k,qs,cur,hk,rfl,hBq,hql,hqf,hBc,hcl,hcf,hgr,hI,hI2⟩:=hrel
  by_cases hk0:0<k
  . obtain⟨p,rfl⟩:∃k',k=k'+1:=⟨k-1,by omega⟩;have e1:(((p+1:Nat):Int)-1)=(p:Int):=by omega
    rw[e1];clear hmk;have hpN:(p:Int)+(n:Int)+1<=(N:Int):=by have:=HMN.out;omega
    have hpN':p+n+1<=N:=by omega
    have hpM:(p:Int)<(Mq:Int):=by omega
    have hp0:(0:Int)<=(p:Int):=by omega
    obtain⟨S,w0,d0,W,eW,eS,hWS,hSb,hW3,hw0,hD,hd0,hWlt,hwt,hdr⟩:∃S w0 d0 W:Nat,W=V (M.seg cur p (n+1))/\S=V (M.seg cur p n)/\W=S+18446744073709551616^n*cur.getD (p+n) 0/\S<18446744073709551616^n/\
     W=((cur.getD (p+n) 0*18446744073709551616+cur.getD (p+n1) 0)*18446744073709551616+cur.getD (p+n2) 0)*18446744073709551616^n2+w0/\w0<18446744073709551616^n2/\
     V ys=(top*18446744073709551616+sec)*18446744073709551616^n2+d0/\d0<18446744073709551616^n2/\W<V ys*18446744073709551616/\cur.getD (p+n) 0<=top/\V (cur.drop (p+(n+1)))=0:=by
     have h1:=EN1.out;have h2:=EN2.out;have h3:=ETOP.out;have h4:=ESEC.out;obtain rfl:n=n2+2:=by omega
     obtain rfl:n1=n2+1:=by omega
     rw[h3,h4];exact M.EI (by omega) cur ys p n2 N hcf hy hcl hm hpN' hI2
    have hc0:=hBc.cell (p+n) (by omega);have hc1:=hBc.cell (p+n1) (by omega);have hc2:=hBc.cell (p+n2) (by omega);have hf0:=hBc.frozen (p+n);have b0:cur.getD (p+n) 0<18446744073709551616:=F64.get hcf _;have b1:cur.getD (p+n1) 0<18446744073709551616:=F64.get hcf _;have b2':cur.getD (p+n2) 0<18446744073709551616:=F64.get hcf _;obtain⟨wn,ewn⟩:∃x,x=cur.getD (p+n) 0:=⟨_,rfl⟩;obtain⟨wn1,ewn1⟩:∃x,x=cur.getD (p+n1) 0:=⟨_,rfl⟩;obtain⟨wn2,ewn2⟩:∃x,x=cur.getD (p+n2) 0:=⟨_,rfl⟩;rw[<-ewn]at hc0 b0 hwt hWS;rw[<-ewn1]at hc1 b1;rw[<-ewn2]at hc2 b2';rw[<-ewn,<-ewn1,<-ewn2]at hW3;have hcq:=hBq.cell p (by omega);have hfq:=hBq.frozen p;obtain⟨qv,eqv⟩:∃x,x=qs.getD p 0:=⟨_,rfl⟩;rw[<-eqv]at hcq;have HI:=hid hI;have HI2:=hid hI2;have HBc:=hid hBc;have HBq:=hid hBq;have HGR:=hid hgr;have EW:=hid eW;have ES:=hid eS;have HWS:=hid hWS;have HW3:=hid hW3;have HD:=hid hD;have HWL:=hid hWlt;have HDR:=hid hdr;have HSb:=hid hSb;have Hw0:=hid hw0;have Hd0:=hid hd0;have EWN:=hid ewn;clear hI hI2 hBc hBq hgr eW eS hWS hW3 hD hWlt hdr hSb hw0 hd0 ewn ewn1 ewn2 eqv;have hln:p+n+1-p=n+1:=by omega
    have k0:(n:Int)<((n+1:Nat):Int):=by omega
    have k1:(n1:Int)<((n+1:Nat):Int):=by omega
    have k2:(n2:Int)<((n+1:Nat):Int):=by omega
    obtain⟨hes1,hes2,hes3,hes4⟩:=EL wn wn1 top b1 htb htop hwt;obtain⟨gs,egs⟩:∃x,x=xU wn wn1 top:=⟨_,rfl⟩;obtain⟨l',el'⟩:∃x,x=qQ wn wn1 top%18446744073709551616:=⟨_,rfl⟩;obtain⟨sm,esm⟩:∃x,x=decide (qQ wn wn1 top<18446744073709551616):=⟨_,rfl⟩;have hEs:=M.Es.start (s:=sec) (x:=wn2) hes1 hes2 hes3 b2' hes4;have HEs:=hid hEs;have EGS:=hid egs;have EL':=hid el';have ESM:=hid esm;clear hes1 hes2 hes3 hes4 hEs egs el' esm
    ((go_wp2_with fail);repeat(go_step3;go_wp2_with fail))
    go_quiet((go_at_call 186;exact Calls.quiet_of (wI wn wn1 top _ b1 htb htop hwt gs l' sm EGS.out EL'.out ESM.out)))
    generalize hwx:wr.drewN nq=wx;have hc0x:wx.cell? ⟨g,p+n,none⟩=some (.int .u64 (wn:Int)):=by rw[<-hwx];exact hc0
    have hc2x:wx.cell? ⟨g,p+n2,none⟩=some (.int .u64 (wn2:Int)):=by rw[<-hwx];exact hc2
    have hf0x:wx.frozen? ⟨g,p+n,none⟩=false:=by rw[<-hwx];exact hf0
    have hcqx:wx.cell? ⟨w.heap.size,p,none⟩=some (.int .u64 (qv:Int)):=by rw[<-hwx];exact hcq
    have hfqx:wx.frozen? ⟨w.heap.size,p,none⟩=false:=by rw[<-hwx];exact hfq
    have HBcx:Hid (Blk wx g cur):=hid (by rw[<-hwx];exact HBc.out.drewN _);have HBqx:Hid (Blk wx w.heap.size qs):=hid (by rw[<-hwx];exact HBq.out.drewN _);have HGRx:Hid (w.grownBy wx (some g)):=hid (by rw[<-hwx];exact aA HGR.out (cU _ _ _));clear hwx HBc HBq HGR hc0 hc1 hc2 hf0 hcq hfq;go_upto_block 2 with fail
    repeat(go_step3;go_upto_block 2 with fail)
    simp only[hln]
    go_cut[11,12,13] (fun gx lx sx wc=>∃(gg lc:Nat)(sb:Bool),gx=.int .u64 gg/\lx=.int .u64 lc/\sx=.bool sb/\gg<18446744073709551616/\gg*(top*18446744073709551616+sec)<=(wn*18446744073709551616+wn1)*18446744073709551616+wn2/\(∀q,q<18446744073709551616->q*(top*18446744073709551616+sec)<=(wn*18446744073709551616+wn1)*18446744073709551616+wn2->q<=gg)/\wc=wx)
    case first=>
     ((go_wp2_with fail);repeat(go_step3;go_wp2_with fail))
     go_loopw [11,12,13] (fun gx lx sx wv=>∃(gg l lc:Nat)(sb:Bool),gx=.int .u64 gg/\lx=.int .u64 lc/\sx=.bool sb/\M.Es 18446744073709551616 top sec (wn*18446744073709551616+wn1) wn2 gg l/\lc=l%18446744073709551616/\sb=decide (l<18446744073709551616)/\wv=wx) (fun gx _ _ _=>(intOf gx).toNat)
     case atStart=>exact⟨gs,qQ wn wn1 top,l',sm,rfl,rfl,rfl,by rw[EGS.out];exact HEs.out,EL'.out,ESM.out,rfl⟩
     case round=>
      rename World=>wv
      obtain⟨gg,l,lc,sb,rfl,rfl,rfl,hEs,elc,esb,hwv⟩:=hrel;subst hwv;clear hc0x hcqx hf0x hfqx;have hggb:gg<18446744073709551616:=hEs.lt
      by_cases hsm:l<18446744073709551616
      . have e2:sb=true:=by rw[esb];exact decide_eq_true hsm
        have e3:l=lc:=by rw[elc];exact(Nat.mod_eq_of_lt hsm).symm
        subst e2 e3;clear elc esb;obtain⟨hh,ehh⟩:∃x:Nat,x=gg*sec/18446744073709551616:=⟨_,rfl⟩;obtain⟨ll,ell⟩:∃x:Nat,x=gg*sec%18446744073709551616:=⟨_,rfl⟩;have hsum:gg*sec=hh*18446744073709551616+ll:=by omega
        have hllb:ll<18446744073709551616:=by omega
        have EHH:=hid ehh;have ELL:=hid ell;clear ehh ell
        ((go_wp2_with fail);repeat(go_step3;go_wp2_with fail))
        refine(mH gg sec _ hggb hsb hh ll EHH.out ELL.out).mono ?_;rintro e wm ⟨rfl,rfl⟩
        by_cases hA:hh<l
        . have hA':(hh:Int)<(l:Int):=by omega
          have hle:gg*sec<=l*18446744073709551616+wn2:=by
           have:(hh+1)*18446744073709551616<=l*18446744073709551616:=Nat.mul_le_mul_right _ hA;omega
          clear hsum;have hfin:=hEs.stop hle;have HF:=hid hfin;have HEs':=hid hEs;clear hfin hEs hle
          ((go_wp2_with fail);repeat(go_step3;go_wp2_with fail))
          go_meet
          case rel=>exact⟨gg,_,true,rfl,rfl,rfl,HEs'.out.lt,HF.out,HEs'.out.ge,by first|rfl|trivial⟩
        . have hA':¬(hh:Int)<(l:Int):=by omega
          by_cases hB:hh=l
          . have hB':((hh:Int)==(l:Int))=true:=by simp;omega
            by_cases hC:ll<=wn2
            . have hC':(ll:Int)<=(wn2:Int):=by omega
              have hle:gg*sec<=l*18446744073709551616+wn2:=by rw[hsum,hB];omega
              clear hsum;have hfin:=hEs.stop hle;have HF:=hid hfin;have HEs':=hid hEs;clear hfin hEs hle
              ((go_wp2_with fail);repeat(go_step3;go_wp2_with fail))
              go_meet
              case rel=>exact⟨gg,_,true,rfl,rfl,rfl,HEs'.out.lt,HF.out,HEs'.out.ge,by first|rfl|trivial⟩
            . have hC':¬(ll:Int)<=(wn2:Int):=by omega
              have hgt:l*18446744073709551616+wn2<gg*sec:=by rw[hsum,hB];omega
              clear hsum;obtain⟨hg1,hEs2⟩:=hEs.down htb hsm hgt;obtain⟨g',eg'⟩:∃t:Nat,t=gg-1:=⟨_,rfl⟩;obtain⟨lc',elc'⟩:∃t:Nat,t=(l+top)%18446744073709551616:=⟨_,rfl⟩;have wg':(gg:Int)-1=(g':Int):=by omega
              have wl':IntKind.u64.wrap ((l:Int)+(top:Int))=(lc':Int):=fO l top lc' elc'
              have hsd:decide (top<=lc')=decide (l+top<18446744073709551616):=by
               congr 1;apply propext;omega
              rw[<-eg']at hEs2;have HES2:=hid hEs2;have EG':=hid eg';have ELC:=hid elc';have HSD:=hid hsd;have hgb':g'<18446744073709551616:=hEs2.lt;clear hEs hEs2 eg' elc' hsd hgt
              ((go_wp2_with fail);repeat(go_step3;go_wp2_with fail))
              go_roundw
              case rel=>
               exact⟨g',l+top,lc',_,rfl,rfl,rfl,HES2.out,ELC.out,HSD.out,by first|rfl|trivial⟩
              case measure=>simp[intOf];have:=EG'.out;omega
          . have hB':((hh:Int)==(l:Int))=false:=by simp;omega
            have hgt:l*18446744073709551616+wn2<gg*sec:=by
             have:(l+1)*18446744073709551616<=hh*18446744073709551616:=Nat.mul_le_mul_right _ (by omega);omega
            clear hsum;obtain⟨hg1,hEs2⟩:=hEs.down htb hsm hgt;obtain⟨g',eg'⟩:∃t:Nat,t=gg-1:=⟨_,rfl⟩;obtain⟨lc',elc'⟩:∃t:Nat,t=(l+top)%18446744073709551616:=⟨_,rfl⟩;have wg':(gg:Int)-1=(g':Int):=by omega
            have wl':IntKind.u64.wrap ((l:Int)+(top:Int))=(lc':Int):=fO l top lc' elc'
            have hsd:decide (top<=lc')=decide (l+top<18446744073709551616):=by
             congr 1;apply propext;omega
            rw[<-eg']at hEs2;have HES2:=hid hEs2;have EG':=hid eg';have ELC:=hid elc';have HSD:=hid hsd;have hgb':g'<18446744073709551616:=hEs2.lt;clear hEs hEs2 eg' elc' hsd hgt
            ((go_wp2_with fail);repeat(go_step3;go_wp2_with fail))
            go_roundw
            case rel=>
             exact⟨g',l+top,lc',_,rfl,rfl,rfl,HES2.out,ELC.out,HSD.out,by first|rfl|trivial⟩
            case measure=>simp[intOf];have:=EG'.out;omega
      . have e2:sb=false:=by rw[esb];exact decide_eq_false hsm
        subst e2;have hfin:=hEs.wide hsb (by omega);have HF:=hid hfin;have HEs':=hid hEs;clear hfin hEs
        ((go_wp2_with fail);repeat(go_step3;go_wp2_with fail))
        go_meet
        case rel=>exact⟨gg,lc,false,rfl,rfl,rfl,HEs'.out.lt,HF.out,HEs'.out.ge,by first|rfl|trivial⟩
    case rest=>
     obtain⟨gg,lc,sb,rfl,rfl,rfl,hggb,hgle,hgge,hwc⟩:=hcut;subst hwc;have hBs:Blk (wc.setCell ⟨w.heap.size,p,none⟩ (.int .u64 (gg:Int))) g cur:=HBcx.out.set_other _ (by simp;omega) _;have hqs:Blk (wc.setCell ⟨w.heap.size,p,none⟩ (.int .u64 (gg:Int))) w.heap.size (qs.set p gg):=HBqx.out.set _ _ _ rfl;have hgs:w.grownBy (wc.setCell ⟨w.heap.size,p,none⟩ (.int .u64 (gg:Int))) (some g):=oK HGRx.out _ _ _ (Nat.le_refl _);have HGE:=hid hgge;have HGLE:=hid hgle;have HBs:=hid hBs;have HQs:=hid hqs;have HGs:=hid hgs;clear hgge hgle hBs hqs hgs
     ((go_wp2_with fail);repeat(go_step3;go_wp2_with fail))
     have hBs:=HBs.out;have hqs:=HQs.out;have hgs:=HGs.out;generalize wc.setCell ⟨w.heap.size,p,none⟩ (.int .u64 (gg:Int))=ws at hBs hqs hgs|-;clear HBs HQs HGs HBcx HBqx HGRx hc0x hc2x hf0x hcqx hfqx
     refine(tA g p n (N-p) _ _ d gg cur ys _ (fun _=>rfl) hBs hcf (by omega) (by omega) hm hy hggb (hr.other hgs hsep') hsep).mono ?_
     rintro e w1 ⟨c,rfl,hg1,hcb,cur1,hB1,hW1,hv1⟩;have hq1:Blk w1 w.heap.size (qs.set p gg):=hqs.grown hg1 (by simp;omega);have hgr1:w.grownBy w1 (some g):=aA hgs hg1;have hl1:cur1.length=N:=by rw[hW1.len];exact hcl
     have hcz:cur1.getD (p+n) 0=wn:=by rw[hW1.out (p+n) (by omega)];exact EWN.out.symm
     have hc0':=hB1.cell (p+n) (by omega);rw[hcz]at hc0';have hf0':=hB1.frozen (p+n);obtain⟨z,ez⟩:∃z:Nat,z=(wn+18446744073709551616-c)%18446744073709551616:=⟨_,rfl⟩;have wz:=iN wn c z ez (by omega);have hzb:z<18446744073709551616:=by omega
     have hB2:Blk (w1.setCell ⟨g,p+n,none⟩ (.int .u64 (z:Int))) g (cur1.set (p+n) z):=hB1.set _ _ _ rfl;have hq2:Blk (w1.setCell ⟨g,p+n,none⟩ (.int .u64 (z:Int))) w.heap.size (qs.set p gg):=hq1.set_other _ (by simp;omega) _;have hgr2:w.grownBy (w1.setCell ⟨g,p+n,none⟩ (.int .u64 (z:Int))) (some g):=aA hgr1 (aD _ _ _ _)
     have hW2:M.Wrote 18446744073709551616 cur p (n+1) (cur1.set (p+n) z):=by
      refine(M.Wrote.set ⟨hW1.len,hW1.lt,fun j hj=>hW1.out j (by omega)⟩ n z (by omega) hzb)
     have hv2:V (M.seg (cur1.set (p+n) z) p (n+1))=V (M.seg cur1 p n)+18446744073709551616^n*z:=by
      unfold V;rw[M.eI,M.bQ _ _ _ (by omega)]
      congr 2
      unfold M.seg;rw[List.drop_set,if_neg (by omega),List.take_set_of_le (by omega)]
     have hS1:V (M.seg cur1 p n)<18446744073709551616^n:=by
      have h:=M.gJ (B:=18446744073709551616) (by omega) (M.seg cur1 p n) (M.wJ hW1.lt p n)
      rwa[M.cZ _ _ _ (by omega)]at h
     have hge:∀q,q*V ys<=W->q<=gg:=by
      intro q hq;refine HGE.out q ?_ ?_
      . have h1:q*V ys<18446744073709551616*V ys:=by have:=HWL.out;rw[Nat.mul_comm 18446744073709551616];omega
        exact Nat.lt_of_mul_lt_mul_right h1
      . have h1:=HD.out;have h2:=HW3.out;rw[h1,h2]at hq;exact M.K6 Hw0.out hq
     have hDp:0<V ys:=by
      have h1:=HD.out;have h2:0<18446744073709551616^n2:=Nat.pow_pos (by omega);have h3:1*18446744073709551616^n2<=(top*18446744073709551616+sec)*18446744073709551616^n2:=Nat.mul_le_mul_right _ (by omega);omega
     have hqd:∀q,V ((qs.set p q).drop p)=q+18446744073709551616*V (qs.drop (p+1)):=by
      intro q;rw[sS _ _ (by simp;omega),M.bQ _ _ _ (by omega),List.drop_set_of_lt (by omega)]
     have HB1:=hid hB1;have HQ1:=hid hq1;have HGR1:=hid hgr1;have HB2:=hid hB2;have HQ2:=hid hq2;have HGR2:=hid hgr2;have HV1:=hid hv1;have HV2:=hid hv2;have HGE2:=hid hge;have HDp:=hid hDp;have HQD:=hid hqd;have HS1:=hid hS1;have EZ:=hid ez;clear hB1 hq1 hgr1 hB2 hq2 hgr2 hv1 hv2 hge hDp hqd hS1 ez hBs hqs hgs hg1
     by_cases hfit:c<=wn
     . have hfit':(c:Int)<=(wn:Int):=by omega
       ((go_wp2_with fail);repeat(go_step3;go_wp2_with fail))
       simp only[Exit.noGoto_exit,Exit.inBlock,Exit.then]
       ((go_wp2_with fail);repeat(go_step3;go_wp2_with fail))
       go_roundw
       case rel=>
        have R:∃(k:Nat)(qs cur:List Nat),k<=Mq/\Value.int .i64 ((p:Int)-1)=.int .i64 ((k:Int)-1)/\Blk (w1.setCell ⟨g,p+n,none⟩ (.int .u64 (z:Int))) w.heap.size qs/\qs.length=Mq/\F64 qs/\Blk (w1.setCell ⟨g,p+n,none⟩ (.int .u64 (z:Int))) g cur/\cur.length=N/\F64 cur/\w.grownBy (w1.setCell ⟨g,p+n,none⟩ (.int .u64 (z:Int))) (some g)/\V cur+V ys*(18446744073709551616^k*V (qs.drop k))=V zs/\V cur<V ys*18446744073709551616^k:=by
         have hp:=M.zO (z:=wn) (Bn:=18446744073709551616^n) (c:=c) HWS.out (by rw[ES.out];exact HV1.out) hfit HGE2.out HDp.out (q:=0);have ez:z=wn-c:=by rw[EZ.out];omega
         rw[<-ez,<-HV2.out]at hp;obtain⟨h1,h2⟩:=M.xK (B:=18446744073709551616) (by omega) cur (cur1.set (p+n) z) p (n+1) N (V ys) (V (qs.drop (p+1))) (V zs) W _ gg hcl (by omega) hW2 EW.out rfl HDR.out hp.1 hp.2 HI.out;exact⟨p,qs.set p gg,_,by omega,rfl,HQ2.out,by rw[List.length_set];exact hql,F64.set hqf p hggb,HB2.out,by rw[List.length_set];exact hl1,hW2.lt,HGR2.out,by rw[HQD.out];exact h1,h2⟩
        first|exact R|((repeat apply Exists.intro);exact⟨R,rfl⟩)
       case measure=>simp[intOf]<;>omega
     . have hfit':¬(c:Int)<=(wn:Int):=by omega
       have hcq2:=HQ2.out.cell p (by rw[List.length_set];omega);rw[M.bQ _ _ _ (by omega)]at hcq2;have hfq2:=HQ2.out.frozen p
       have hgg1:1<=gg:=by
        rcases Nat.eq_zero_or_pos gg with h|h
        . have h1:=HV1.out;rw[h,Nat.zero_mul,Nat.add_zero]at h1;have h2:=HS1.out;have h3:1*18446744073709551616^n<=c*18446744073709551616^n:=Nat.mul_le_mul_right _ (by omega);omega
        . exact h
       obtain⟨m,em⟩:∃m:Nat,m=gg-1:=⟨_,rfl⟩;have wm:(gg:Int)-1=(m:Int):=by omega
       have hmb:m<18446744073709551616:=by omega
       have hB3:Blk ((w1.setCell ⟨g,p+n,none⟩ (.int .u64 (z:Int))).setCell ⟨w.heap.size,p,none⟩ (.int .u64 (m:Int))) g (cur1.set (p+n) z):=HB2.out.set_other _ (by simp;omega) _;have hq3:Blk ((w1.setCell ⟨g,p+n,none⟩ (.int .u64 (z:Int))).setCell ⟨w.heap.size,p,none⟩ (.int .u64 (m:Int))) w.heap.size ((qs.set p gg).set p m):=HQ2.out.set _ _ _ rfl;rw[List.set_set]at hq3;have hgr3:w.grownBy ((w1.setCell ⟨g,p+n,none⟩ (.int .u64 (z:Int))).setCell ⟨w.heap.size,p,none⟩ (.int .u64 (m:Int))) (some g):=oK HGR2.out _ _ _ (Nat.le_refl _);have HB3:=hid hB3;have HQ3:=hid hq3;have HGR3:=hid hgr3;have EM:=hid em;clear hB3 hq3 hgr3 em
       ((go_wp2_with fail);repeat(go_step3;go_wp2_with fail))
       have hB3:=HB3.out;have hq3:=HQ3.out;have hgr3:=HGR3.out;generalize(w1.setCell ⟨g,p+n,none⟩ (.int .u64 (z:Int))).setCell ⟨w.heap.size,p,none⟩ (.int .u64 (m:Int))=ws at hB3 hq3 hgr3|-;clear HB3 HQ3 HGR3 hcq2 hfq2 hc0' hf0';refine(pJ g p (n+1) (N-p) _ n d (cur1.set (p+n) z) ys _ hB3 hW2.lt (by rw[List.length_set];omega) (by omega) hm (by omega) hy (hr.other hgr3 hsep') hsep).mono ?_;rintro e w4 ⟨rfl,hg4,cur3,c3,hB4,hW4,hc3,hv4⟩;have hq4:Blk w4 w.heap.size (qs.set p m):=hq3.grown hg4 (by simp;omega);have hgr4:w.grownBy w4 (some g):=aA hgr3 hg4
       have hW5:M.Wrote 18446744073709551616 cur p (n+1) cur3:=⟨by rw[hW4.len,hW2.len],hW4.lt,fun j hj=>by rw[hW4.out j hj,hW2.out j hj]⟩
       have HB4:=hid hB4;have HQ4:=hid hq4;have HGR4:=hid hgr4;have HV4:=hid hv4;clear hB4 hq4 hgr4 hv4 hB3 hq3 hgr3 hg4
       ((go_wp2_with fail);repeat(go_step3;go_wp2_with fail))
       simp only[Exit.noGoto_normal,Exit.inBlock,Exit.then]
       ((go_wp2_with fail);repeat(go_step3;go_wp2_with fail))
       go_roundw
       case rel=>
        have R:∃(k:Nat)(qs cur:List Nat),k<=Mq/\Value.int .i64 ((p:Int)-1)=.int .i64 ((k:Int)-1)/\Blk w4 w.heap.size qs/\qs.length=Mq/\F64 qs/\Blk w4 g cur/\cur.length=N/\F64 cur/\w.grownBy w4 (some g)/\V cur+V ys*(18446744073709551616^k*V (qs.drop k))=V zs/\V cur<V ys*18446744073709551616^k:=by
         have hS2:V (M.seg cur3 p (n+1))<18446744073709551616^n*18446744073709551616:=by
          have h:=M.gJ (B:=18446744073709551616) (by omega) (M.seg cur3 p (n+1)) (M.wJ hW5.lt p (n+1))
          rwa[M.cZ _ _ _ (by rw[hW5.len];omega),Nat.pow_succ]at h
         have hDB:V ys<=18446744073709551616^n:=by
          have h:=M.gJ (B:=18446744073709551616) (by omega) ys hy;rw[hm]at h;exact Nat.le_of_lt h
         have ez:z=wn+18446744073709551616-c:=by rw[EZ.out];exact Nat.mod_eq_of_lt (by omega)
         have hv4:=HV4.out;rw[HV2.out,ez,Nat.pow_succ]at hv4
         have hgm:(gg-1)*V ys<=W:=by
          rw[HD.out,HW3.out];refine M.I4 Hd0.out (by have:9223372036854775808*18446744073709551616<=top*18446744073709551616:=Nat.mul_le_mul_right _ htop;omega) ?_;rw[Nat.sub_add_cancel hgg1];exact HGLE.out
         have hp:=M.AP (B:=18446744073709551616) (Bn:=18446744073709551616^n) (c:=c) HWS.out (by rw[ES.out];exact HV1.out) (by omega) (by omega) HSb.out HS1.out hgm hgg1 hv4 hS2 hDB HDp.out;rw[<-EM.out]at hp;obtain⟨h1,h2⟩:=M.xK (B:=18446744073709551616) (by omega) cur cur3 p (n+1) N (V ys) (V (qs.drop (p+1))) (V zs) W _ m hcl (by omega) hW5 EW.out rfl HDR.out hp.1 hp.2 HI.out;exact⟨p,qs.set p m,_,by omega,rfl,HQ4.out,by rw[List.length_set];exact hql,F64.set hqf p hmb,HB4.out,by rw[hW5.len];exact hcl,hW5.lt,HGR4.out,by rw[HQD.out];exact h1,h2⟩
        first|exact R|((repeat apply Exists.intro);exact⟨R,rfl⟩)
       case measure=>simp[intOf]<;>omega
  . have e:k=0:=by omega
    subst e;have hge:¬(0:Int)<=((0:Nat):Int)-1:=by omega
    have HBc:=hid hBc;have HBq:=hid hBq;have HGR:=hid hgr;have HI:=hid hI;have HI2:=hid hI2;clear hBc hBq hgr hI hI2
    ((go_wp2_with fail);repeat(go_step3;go_wp2_with fail))
    go_ret;refine⟨rfl,HGR.out,qs,cur,HBq.out,hql,hqf,?_,HBc.out,hcl,hcf,?_⟩
    . have h1:=HI.out;have h2:=HI2.out;rw[Nat.pow_zero,Nat.mul_one]at h2;rw[Nat.pow_zero,Nat.one_mul,List.drop_zero]at h1;rw[<-h1,Nat.add_mul_div_left _ _ (by omega),Nat.div_eq_of_lt h2,Nat.zero_add]
    . have h1:=HI.out;have h2:=HI2.out;rw[Nat.pow_zero,Nat.mul_one]at h2;rw[<-h1,Nat.add_mul_mod_self_left,Nat.mod_eq_of_lt h2]

end Go.Proofs.YtfdgkleoaehjaaaGreatDoor
