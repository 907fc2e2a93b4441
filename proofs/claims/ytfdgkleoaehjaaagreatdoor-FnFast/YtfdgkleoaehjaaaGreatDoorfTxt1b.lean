import Derived.Test.YtfdgkleoaehjaaaGreatDoorfGAS
set_option maxHeartbeats 1000000
namespace Go.Proofs.YtfdgkleoaehjaaaGreatDoor
open Go.RowKit
set_option linter.unusedVariables false
set_option maxRecDepth 100000

def BlkP (w:World)(g:Nat)(zs:List Nat)(rest:List Value):Prop:=w.heap[g]? =some (.cells (U zs++rest).toArray 25 (0,0))

theorem BlkP.cell {w:World}{g:Nat}{zs:List Nat}{rest:List Value}(h:BlkP w g zs rest)(i:Nat)(hi:i<zs.length):w.cell? ⟨g,i,none⟩=some (.int .u64 ((zs.getD i 0:Nat):Int)):=by
 rw[cell_of_row w g i _ _ (0,0) h,List.getElem?_toArray,List.getElem?_append_left (by rw[dV];exact hi),DJ zs i hi]

theorem BlkP.frozen {w:World}{g:Nat}{zs:List Nat}{rest:List Value}(h:BlkP w g zs rest)(i:Nat):w.frozen? ⟨g,i,none⟩=false:=frozen_of_row w g i _ _ h

theorem BlkP.set {w:World}{g:Nat}{zs:List Nat}{rest:List Value}(h:BlkP w g zs rest)(i x:Nat)(hi:i<zs.length)(v:Int)(hv:v=(x:Int)):BlkP (w.setCell ⟨g,i,none⟩ (.int .u64 v)) g (zs.set i x) rest:=by
 subst hv;unfold BlkP;rw[heap_setCell_same w g i _ _ _ h,NS,<-List.set_append_left i _ (by rw[dV];exact hi)]
 simp

theorem BlkP.of_own {w:World}{base g n cap:Nat}{xs:List Nat}(h:w.ownsRow base 25 1 (.slice (some ⟨g,0,none⟩) n cap) n (U xs)):∃rest:List Value,BlkP w g xs rest/\n+rest.length=cap/\base<=g/\n<=cap/\cap<=maxLen:=by
 have hl:=h.1;rcases h.2 with⟨he,h0⟩|⟨g',cap',cur,he,hb,hg,hc,hm,hs,ht⟩
 . simp at he
 . simp only[Value.slice.injEq,Option.some.injEq,Addr.mk.injEq]at he;obtain⟨⟨rfl,_⟩,_,rfl⟩:=he;rw[Nat.mul_one]at hs ht;refine⟨cur.toList.drop n,?_,by simp;omega,hb,hc,hm⟩;unfold BlkP;rw[hg,<-ht,List.take_append_drop]

theorem BlkP.own {w:World}{base g n cap:Nat}{xs:List Nat}{rest:List Value}(h:BlkP w g xs rest)(hb:base<=g)(hn:xs.length=n)(hc:n+rest.length=cap)(hm:cap<=maxLen):w.ownsRow base 25 1 (.slice (some ⟨g,0,none⟩) n cap) n (U xs):=by
 subst hc;refine⟨by rw[dV];omega,.inr ⟨g,_,(U xs++rest).toArray,rfl,hb,h,by omega,hm,by simp[U,hn],?_⟩⟩;rw[Nat.mul_one,<-hn,List.take_left' (by rw[dV])]

theorem qN (g N cap:Nat)(rest:List Value)(ao:Option Addr)(f ex:Nat)(zs:List Nat)(w:World)(hao:0<N->ao=some ⟨g,0,none⟩)(hB:BlkP w g zs rest)(hz:F64 zs)(ho:N<=zs.length)(hN:N<=4194304)(hf:f<18446744073709551616)(he:ex<18446744073709551616):
 Calls Tryz.prog 97 #[.slice ao N cap,.int .u64 (f:Int),.int .u64 (ex:Int)] w fun e w'=>∃(c:Nat)(cur:List Nat),e=.returned (.int .u64 (c:Int))/\w.grownBy w' (some g)/\c<18446744073709551616/\BlkP w' g cur rest/\M.Wrote 18446744073709551616 zs 0 N cur/\V (M.seg cur 0 N)+c*18446744073709551616^N=f*V (M.seg zs 0 N)+ex:=by
 go_enter Tryz.func97,Tryz.ntmps97;go_wp2_with fail
 go_loopw [7,15] (fun cy i wr=>∃(k:Nat)(cur:List Nat)(c:Nat),k<=N/\i=.int .i64 k/\cy=.int .u64 c/\c<18446744073709551616/\BlkP wr g cur rest/\M.Wrote 18446744073709551616 zs 0 N cur/\w.grownBy wr (some g)/\(∀j,k<=j->cur.getD j 0=zs.getD j 0)/\V (M.seg cur 0 k)+c*18446744073709551616^k=f*V (M.seg zs 0 k)+ex) (fun _ i _=>N-(intOf i).toNat)
 case atStart=>exact⟨0,zs,ex,by omega,rfl,rfl,he,hB,M.Wrote.refl hz _ _,World.grownBy.refl _ _,fun _ _=>rfl,by simp[V,M.val,M.seg]⟩
 case round=>
  obtain⟨k,cur,c,hk,rfl,rfl,hc,hBk,hW,hg,hsame,hv⟩:=hrel;have HV:=hid hv;clear hv;have HSM:=hid hsame;clear hsame
  by_cases hlt:k<N
  . have hao':=hao (by omega);have hca:=hBk.cell k (by have:=hW.len;omega);have hfa:=hBk.frozen k;have hx1:cur.getD k 0<18446744073709551616:=M.bG (by omega) hW.lt _;obtain⟨x,hxx⟩:∃x:Nat,x=cur.getD k 0:=⟨_,rfl⟩;rw[<-hxx]at hca hx1;have HX:=hid hxx;clear hxx;have hlt':(k:Int)<(N:Int):=by omega
    have HB:=hid hBk;clear hBk;have HG:=hid hg;clear hg;obtain⟨o,r,c',eo,er,ec',bc',bo',hs⟩:=M.plus_place x f c (x*f) rfl hx1 hf hc;obtain⟨hi,ehi⟩:∃h:Nat,h=x*f/18446744073709551616:=⟨_,rfl⟩;obtain⟨lo,elo⟩:∃h:Nat,h=x*f%18446744073709551616:=⟨_,rfl⟩;rw[<-elo]at eo;rw[<-ehi]at ec';have w1:=fO lo c o eo;have w2:=lL hi r c' ec' bc';have E1:=hid ehi;have E2:=hid elo;have E3:=hid er;have E5:=hid hs;have E6:=hid bc';have E7:=hid bo';clear ehi elo er hs bc' bo' eo ec';go_wp2_with fail;refine(mH x f _ hx1 hf hi lo E1.out E2.out).mono ?_;rintro e v1 ⟨rfl,rfl⟩;go_wp2_with fail;refine(eL _ _ _ r E3.out).mono ?_;rintro e w3' ⟨rfl,hw3⟩;have hB3:BlkP w3' g (cur.set k o) rest:=by rw[hw3];exact HB.out.set _ _ (by have:=hW.len;omega) _ rfl
    have hg3:w.grownBy w3' (some g):=by rw[hw3];exact aA HG.out (aD _ _ _ _)
    have hW3:=hW.set k o (by omega) E7.out;rw[Nat.zero_add]at hW3;have HB3:=hid hB3;clear hB3;have HG3:=hid hg3;clear hg3;clear hw3 hca hfa;go_wp2_with fail;go_roundw
    case rel=>
     have R:∃(k1:Nat)(cur1:List Nat)(c1:Nat),k1<=N/\Value.int .i64 ((k:Int)+1)=.int .i64 k1/\Value.int .u64 (c':Int)=.int .u64 c1/\c1<18446744073709551616/\BlkP w3' g cur1 rest/\M.Wrote 18446744073709551616 zs 0 N cur1/\w.grownBy w3' (some g)/\(∀j,k1<=j->cur1.getD j 0=zs.getD j 0)/\V (M.seg cur1 0 k1)+c1*18446744073709551616^k1=f*V (M.seg zs 0 k1)+ex:=by
      refine⟨k+1,cur.set k o,c',by omega,by go_num,rfl,E6.out,HB3.out,hW3,HG3.out,fun j hj=>?_,?_⟩
      . rw[M.bO _ _ _ _ (by omega)];exact HSM.out j (by omega)
      . have hzx:zs.getD (0+k) 0=x:=by rw[Nat.zero_add,<-HSM.out k (Nat.le_refl _)];exact HX.out.symm
        have hcx:(cur.set k o).getD (0+k) 0=o:=by rw[Nat.zero_add,M.bQ _ _ _ (by have:=hW.len;omega)]
        have hsg:M.seg (cur.set k o) 0 k=M.seg cur 0 k:=by
         unfold M.seg;rw[List.drop_zero,List.drop_zero,List.take_set_of_le (Nat.le_refl _)]
        unfold V;rw[M.eI,M.eI,hzx,hcx,hsg,Nat.pow_succ];exact M.plus_over HV.out E5.out
     first|exact R|((repeat apply Exists.intro);exact⟨R,rfl⟩)|((repeat apply Exists.intro);exact⟨R,by rw[hao']⟩)
    case measure=>simp[intOf];omega
  . have e:k=N:=by omega
    subst e;have HBk:=hid hBk;clear hBk;have HG:=hid hg;clear hg;go_wp2_with fail;go_ret;exact⟨c,cur,rfl,HG.out,hc,HBk.out,hW,HV.out⟩

end Go.Proofs.YtfdgkleoaehjaaaGreatDoor
