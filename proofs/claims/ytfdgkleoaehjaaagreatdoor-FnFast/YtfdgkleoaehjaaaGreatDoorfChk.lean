import Derived.RangeFuncNested
import Derived.RangeFuncBound
import Derived.RangeFuncCalls
import Derived.RangeFuncLeaves
import Derived.RangeFuncBox
import Derived.Shelf.Abstract
import Derived.Shelf.RegionOpen
import Derived.OwnWalkIn
import Derived.TacticsInMore
import Derived.LoopNIn
import Derived.LoopIn
import Derived.Test.YtfdgkleoaehjaaaGreatDoorfGAB
set_option maxHeartbeats 2000000
set_option maxRecDepth 100000
namespace Go.Proofs.YtfdgkleoaehjaaaGreatDoor
open Go.RowKit Go.Shelf
attribute [local go_sem] Oper.semAt_some
set_option linter.unusedVariables false
set_option maxRecDepth 100000

def chn (len k:Nat):Nat:=min 19 (len-19*k)

def chv (b off len k:Nat):Value:=.slice (some ⟨b,off+19*k,none⟩) (chn len k) (chn len k)

def Kp2 (B:Nat)(W W':World):Prop:=W'.heap[B]? =W.heap[B]?/\W'.heap[B+1]? =W.heap[B+1]?

theorem Kp2.t {B:Nat}{a b c:World}(h:Kp2 B a b)(k:Kp2 B b c):Kp2 B a c:=⟨k.1.trans h.1,k.2.trans h.2⟩

theorem Kp2.cell {B:Nat}{W W':World}(h:Kp2 B W W')(j i:Nat)(hj:j=B\/j=B+1):W'.cell? ⟨j,i,none⟩=W.cell? ⟨j,i,none⟩:=by
 rcases hj with rfl|rfl
 . simp only[World.cell?,h.1]
 . simp only[World.cell?,h.2]

theorem Kp2.below {B n:Nat}{W W':World}(h:Below n W W')(hB:B+1<n):Kp2 B W W':=⟨h.block B (by omega),h.block (B+1) hB⟩

theorem F6 (n:Nat)(hn:1<=n)(l B b off len cap:Nat)(hlen:len<=20000)(hcap:len<=cap)(hcm:cap<=9223372036854775807)(M:Nat)(J Jx:List Nat->World->Prop)(hJ:AbidesFrom M J)
 (hY:∀pre x W,J pre W->pre.length<(len+18)/19->YieldAt Fence.wide (n-1) Tryz.prog l #[chv b off len x] W fun e W'=>
   (e=.returned (.bool true)/\J (pre++[x]) W'/\Kp2 B W W')\/(e=.returned (.bool false)/\Jx (pre++[x]) W'))
 (W:World)(hBs:W.cell? ⟨B,0,none⟩=some (.slice (some ⟨b,off,none⟩) len cap))(hBn:W.cell? ⟨B+1,0,none⟩=some (.int .i64 19))(h0:J [] W):
 CallsIn Fence.wide n Tryz.prog 125 #[.func (.yield l) #[] #[],.pointer (some ⟨B,0,none⟩),.pointer (some ⟨B+1,0,none⟩)] W fun e W'=>(∃v,e=.returned v)/\
  ((∃ys,ys=List.range ((len+18)/19)/\J ys W')\/(∃pre,True/\Jx pre W')):=by
 refine callsIn_of_wp Tryz.func125 rfl trivial ?_ rfl;simp only[Tryz.ntmps125,List.size_toArray,List.length_cons,List.length_nil,Nat.reduceAdd,Nat.reduceSub,Array.replicate_succ,Array.replicate_zero,List.push_toArray,List.append_toArray,List.nil_append,List.cons_append]
 gi_wp2
 gi_loopw [4] (fun i wr=>∃k:Nat,k<=(len+18)/19/\i=.int .i64 ((19*k:Nat):Int)/\J (List.range k) wr/\Kp2 B W wr)
  (fun i _=>20019-(intOf i).toNat)
 case atStart=>exact⟨0,Nat.zero_le _,rfl,h0,rfl,rfl⟩
 case round=>
  obtain⟨k,hk,rfl,hJs,hnx⟩:=hrel;have c1:=(hnx.cell B 0 (.inl rfl)).trans hBs;have c2:=(hnx.cell (B+1) 0 (.inr rfl)).trans hBn
  by_cases hlt:19*k<len
  . have hlt':((19*k:Nat):Int)<(len:Int):=by omega
    have hle':(19*k:Nat)<=len:=by omega
    obtain⟨m,hm⟩:∃m,m=chn len k:=⟨_,rfl⟩
    have hm1:(if((len-19*k:Nat):Int)<19 then((len-19*k:Nat):Int)else 19)=(m:Int):=by
     rw[hm];unfold chn;split<;>omega
    have hm2:19*k+m<=len:=by rw[hm];unfold chn;omega
    have hm0:0<m:=by rw[hm];unfold chn;omega
    have hm4:¬m=0:=by omega
    have hm3:m<=19:=by rw[hm];unfold chn;omega
    have HM:=hid hm;clear hm
    gi_wp2
    gi_quiet (fail)
    have hJ2:J (List.range k) (wr.drewN nq):=hJ _ wr _ none hJs (cU wr nq none) (by simp);have c1':(wr.drewN nq).cell? ⟨B,0,none⟩=some (.slice (some ⟨b,off,none⟩) len cap):=c1;have k2:Kp2 B W (wr.drewN nq):=hnx;generalize wr.drewN nq=wz at*;obtain⟨fn,tmps,assign,mU,hy,hR⟩:=hY _ k wz hJ2 (by simp;omega);simp only[chv,<-HM.out]at hy;generalize hK:19*k=K at*;have a1:(K:Int)<=(K:Int)+(m:Int):=by omega
    have a3:(K:Int)+(m:Int)<=(cap:Int):=by omega
    have a4:IntKind.i64.wrap ((K:Int)+(m:Int))=(K:Int)+(m:Int):=by rw[IntKind.wrap_i64];omega
    have a2:K+m-K=m:=by omega
    have HK:=hid hK;clear c1 c2 hm1 hK
    gi_wp2
    refine hR.mono ?_;rintro e W3 (⟨rfl,hJ3,hk3⟩|⟨rfl,hJx3⟩)
    . have k3:=k2.t hk3;have c3:=(k3.cell (B+1) 0 (.inr rfl)).trans hBn;have a5:IntKind.i64.wrap ((K:Int)+19)=(K:Int)+19:=by rw[IntKind.wrap_i64];omega
      gi_wp2
      go_roundw
      case rel=>exact⟨k+1,by have:=HK.out;omega,by have:=HK.out;congr 1;omega,by rw[List.range_succ];exact hJ3,k3⟩
      case measure=>have:=HK.out;simp[intOf];omega
    . gi_wp2
      refine bodyPost_ret (results_none rfl _ _ _) rfl ?_;exact⟨⟨_,rfl⟩,.inr ⟨_,trivial,hJx3⟩⟩
  . have hge:¬((19*k:Nat):Int)<(len:Int):=by omega
    have hk':k=(len+18)/19:=by omega
    have HK:=hid hk';clear hk';generalize hK:19*k=K at*;have HK2:=hid hK;clear hK
    gi_wp2
    go_end0
    exact⟨⟨_,rfl⟩,.inl (by rw[<-HK.out];exact hJs)⟩

theorem KF (n:Nat)(a:Option Addr)(len cap:Nat)(w:World):
 CallsIn Fence.wide n Tryz.prog 96 #[.slice a len cap,.int .i64 19] w fun e w'=>e=.returned (.func (.func 125) #[] #[.pointer (some ⟨w.heap.size,0,none⟩),.pointer (some ⟨w.heap.size+1,0,none⟩)])/\w'=(w.alloc (.cells #[.slice a len cap] 22)).alloc (.cells #[.int .i64 19] 3):=by
 refine callsIn_of_wp Tryz.func96 rfl trivial ?_ rfl;simp only[Tryz.ntmps96,List.size_toArray,List.length_cons,List.length_nil,Nat.reduceAdd,Nat.reduceSub,Array.replicate_succ,Array.replicate_zero,List.push_toArray,List.append_toArray,List.nil_append,List.cons_append]
 gi_wp2
 go_ret;exact⟨rfl,rfl⟩

theorem yH (n:Nat)(hn:1<=n)(B b off len cap:Nat)(hlen:len<=20000)(hcap:len<=cap)(hcm:cap<=9223372036854775807)(w:World)(hB:B+1<w.heap.size)
 (hBs:w.cell? ⟨B,0,none⟩=some (.slice (some ⟨b,off,none⟩) len cap))(hBn:w.cell? ⟨B+1,0,none⟩=some (.int .i64 19)):
 SeqStopsK Fence.wide n Tryz.prog 125 #[.pointer (some ⟨B,0,none⟩),.pointer (some ⟨B+1,0,none⟩)] (fun k:Nat=> #[chv b off len k]) (Kp2 B) (fun ys=>ys=List.range ((len+18)/19)) (fun _=>True) ((len+18)/19) w:=fun l J Jx W hW hJ _ hY h0=>by
 have c1:=(hW.cell (p:=⟨B,0,none⟩) (by simp only;omega)).trans hBs;have c2:=(hW.cell (p:=⟨B+1,0,none⟩) (by simp only;omega)).trans hBn;exact F6 n hn l B b off len cap hlen hcap hcm _ J Jx hJ hY W c1 c2 h0

end Go.Proofs.YtfdgkleoaehjaaaGreatDoor
