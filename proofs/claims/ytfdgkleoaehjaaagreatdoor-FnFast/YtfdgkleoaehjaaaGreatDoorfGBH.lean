import Derived.Test.YtfdgkleoaehjaaaGreatDoorfGBD
set_option maxHeartbeats 16000000
namespace Go.Proofs.YtfdgkleoaehjaaaGreatDoor
open Go.RowKit
set_option linter.unusedVariables false
set_option maxRecDepth 100000

def ShR (v w':World)(e:Ending)(ds:List Nat)(x:Int)(ng:Bool)(k:Int):Prop:=
 ∃ra rc,e=.returned (.agg #[.slice ra ds.length rc,.int .i64 x,.bool ng,.int .i64 k])/\OwnV w' v.heap.size (.slice ra ds.length rc) ds/\Below v.heap.size v w'

theorem I7 (ds:List Nat)(h:1<=ds.length):ds.take 1=[ds.getD 0 0]:=by
 match ds,h with
 |x::r,_=>rfl

theorem KX {w w':World}{row:Option Nat}(c:Nat)(hc:c<256)(G:(w.alloc (.cells #[.int .u8 (c:Int)] 5)).grownBy w' row)(hr:∀k,row=some k->k<w.heap.size):RdB w' (some ⟨w.heap.size,0,none⟩) [c]:=by
 refine⟨fun x hx=>by simp at hx;omega,fun _=>⟨w.heap.size,0,rfl,fun i hi=>?_⟩⟩
 obtain rfl:i=0:=by simp at hi;exact hi
 exact((Cls.new w #[.int .u8 (c:Int)] 5).grown G (fun e=>by have:=hr w.heap.size e.symm;omega)).cell 0 (x:=.int .u8 (c:Int)) rfl

theorem uC (f a b:Int)(w:World)(k:Int)(hk:k≠0)
 (kS:∀v:World,Calls Tryz.prog 117 #[.int .i64 f,.agg #[.int .u64 a,.int .u64 b]] v fun e w'=>ShR v w' e [] 0 false k):
 Calls Tryz.prog 87 #[.int .i64 f,.agg #[.int .u64 a,.int .u64 b]] w fun e w'=>PrP w w' e:=by
 obtain⟨cw,cr,b0⟩:=Cls.new2 w #[.int .u64 a,.int .u64 b] #[.slice none 0 0,.int .i64 0] 27 133;have x0:=cw.cell 0 rfl;have x1:=cw.cell 1 rfl;go_enter Tryz.func87,Tryz.ntmps87;go_wp2_with fail;refine(kS _).mono ?_;rintro e v1 ⟨sa,sc,rfl,oS,hb⟩;replace cw:=cw.below hb;replace cr:=cr.below hb;replace b0:=b0.trans (hb.mono b0.size);clear hb x0 x1;go_upto_region 2 with fail;have bA:=(Below.refl v1.heap.size v1).alloc (Nat.le_refl _) (.cells #[.slice sa 0 sc,.int .i64 0,.bool false,.int .i64 k] 155);have cs:=Cls.new v1 #[.slice sa 0 sc,.int .i64 0,.bool false,.int .i64 k] 155;replace cw:=cw.below bA;replace cr:=cr.below bA;replace oS:=oS.below bA;replace b0:=b0.trans (bA.mono b0.size);clear bA;generalize v1.alloc (.cells #[.slice sa 0 sc,.int .i64 0,.bool false,.int .i64 k] 155)=v2 at*;obtain⟨gs,hgs⟩:∃gs,gs=v1.heap.size:=⟨_,rfl⟩;rw[<-hgs]at cs|-;clear hgs;have p3:=cs.cell 3 rfl;have lr:w.heap.size+1<v2.heap.size:=cr.lt;have r0:=cr.cell 0 rfl;have r1:=cr.cell 1 rfl;have z0:=cr.frozen 0;have z1:=cr.frozen 1;have hk':(k !=0)=true:=by simpa using hk
 go_wp2_with fail;refine bodyPost_ret (v:=.agg #[.slice none 0 0,.int .i64 k]) (by simp[results,Tryz.results87,go_sem,r0,r1]) rfl ?_;exact jK (Tx.nil v2) (by simp) b0 lr k (by omega)

theorem zH (f a b tc:Int)(tn:Bool)(th tl tq:Int)(w:World)
 (kS:∀v:World,Calls Tryz.prog 117 #[.int .i64 f,.agg #[.int .u64 a,.int .u64 b]] v fun e w'=>∃(ds:List Nat)(x:Int)(ng:Bool),(tc=5\/tc≠5/\(tc=4\/tc=1\/tc≠1/\tc≠4/\((ds=[]/\x=0)\/(1<=ds.length/\ds.length<=100))/\ -9000<(ds.length:Int)+x/\(ds.length:Int)+x<9000))/\ShR v w' e ds x ng 0)
 (kU:∀v:World,Calls Tryz.prog 67 #[.int .i64 f,.agg #[.int .u64 a,.int .u64 b]] v fun e w'=>e=.returned (.agg #[.int .i64 tc,.bool tn,.int .u64 th,.int .u64 tl,.int .i64 tq])/\Below v.heap.size v w'):
 Calls Tryz.prog 87 #[.int .i64 f,.agg #[.int .u64 a,.int .u64 b]] w fun e w'=>PrP w w' e:=by
 obtain⟨cw,cr,b0⟩:=Cls.new2 w #[.int .u64 a,.int .u64 b] #[.slice none 0 0,.int .i64 0] 27 133;have x0:=cw.cell 0 rfl;have x1:=cw.cell 1 rfl;go_enter Tryz.func87,Tryz.ntmps87;go_wp2_with fail;refine(kS _).mono ?_;rintro e v1 ⟨ds,x,ng,hcase,sa,sc,rfl,oS,hb⟩;have HC:=hid hcase;clear hcase;replace cw:=cw.below hb;replace cr:=cr.below hb;replace b0:=b0.trans (hb.mono b0.size);clear hb x0 x1;go_upto_region 2 with fail;have bA:=(Below.refl v1.heap.size v1).alloc (Nat.le_refl _) (.cells #[.slice sa ds.length sc,.int .i64 x,.bool ng,.int .i64 0] 155);have cs:=Cls.new v1 #[.slice sa ds.length sc,.int .i64 x,.bool ng,.int .i64 0] 155;replace cw:=cw.below bA;replace cr:=cr.below bA;replace oS:=oS.below bA;replace b0:=b0.trans (bA.mono b0.size);clear bA;generalize v1.alloc (.cells #[.slice sa ds.length sc,.int .i64 x,.bool ng,.int .i64 0] 155)=v2 at*;obtain⟨gs,hgs⟩:∃gs,gs=v1.heap.size:=⟨_,rfl⟩;rw[<-hgs]at cs|-;clear hgs;have p3:=cs.cell 3 rfl;have x0:=cw.cell 0 rfl;have x1:=cw.cell 1 rfl;go_wp2_with fail;refine(kU _).mono ?_;rintro e v3 ⟨rfl,hb⟩;replace cr:=cr.below hb;replace cs:=cs.below hb;replace oS:=oS.below hb;replace b0:=b0.trans (hb.mono b0.size);clear hb x0 x1 p3 cw;go_upto_region 6 with fail;have bA:=(Below.refl v3.heap.size v3).alloc (Nat.le_refl _) (.cells #[.int .i64 tc,.bool tn,.int .u64 th,.int .u64 tl,.int .i64 tq] 67);have cp:=Cls.new v3 #[.int .i64 tc,.bool tn,.int .u64 th,.int .u64 tl,.int .i64 tq] 67;replace cr:=cr.below bA;replace cs:=cs.below bA;replace oS:=oS.below bA;replace b0:=b0.trans (bA.mono b0.size);clear bA;generalize v3.alloc (.cells #[.int .i64 tc,.bool tn,.int .u64 th,.int .u64 tl,.int .i64 tq] 67)=v4 at*;obtain⟨gp,hgp⟩:∃gp,gp=v3.heap.size:=⟨_,rfl⟩;rw[<-hgp]at cp|-;clear hgp;have lr:w.heap.size+1<v4.heap.size:=cr.lt;have q0:=cp.cell 0 rfl;rcases HC.out with rfl|⟨t5,hcase⟩
 . have r0:=cr.cell 0 rfl;have r1:=cr.cell 1 rfl;have z0:=cr.frozen 0;have z1:=cr.frozen 1;have kc:=Lib.run_convert_bytes_const (P:=Tryz.prog) v4 22 5 #[.int .u8 78,.int .u8 97,.int .u8 78] 3 3 Tryz.underlying22 Tryz.underlying5;have r0':=Lib.cell?_alloc_marked (.cells #[.int .u8 78,.int .u8 97,.int .u8 78] 5 (3,4)) r0;have r1':=Lib.cell?_alloc_marked (.cells #[.int .u8 78,.int .u8 97,.int .u8 78] 5 (3,4)) r1;go_wp2_with fail;have RB:=((cr.set 0 (.slice (some ⟨v4.heap.size,0,none⟩) 3 3) _ rfl).set 1 (.int .i64 0) _ rfl).below ((Below.refl _ _).alloc (Nat.le_refl _) (.cells #[.int .u8 78,.int .u8 97,.int .u8 78] 5 (3,4)));have q0:=RB.cell 0 (x:=.slice (some ⟨v4.heap.size,0,none⟩) 3 3) rfl;have q1:=RB.cell 1 (x:=.int .i64 0) rfl;refine bodyPost_ret (v:=.agg #[.slice (some ⟨v4.heap.size,0,none⟩) 3 3,.int .i64 0]) (by simp[results,Tryz.results87,go_sem,q0,q1]) rfl ?_;exact LW b0 lr _ _
 have HC5:=hid hcase;clear hcase HC;have e5:(tc==5)=false:=beq_eq_false_iff_ne.2 t5;have p2:=cs.cell 2 rfl;go_upto_if 31 with fail
 go_cut[6] (fun z wx=>∃ra n1 rc,z=.slice ra n1 rc/\n1<=1/\Tx v4.heap.size v4 wx ra n1 rc (M.sgl ng))
 case first=>
  cases ng
  . go_wp2_with fail;go_meet
    case rel=>exact⟨none,0,0,rfl,by omega,Tx.nil v4⟩
  . go_wp2_with (at_builtin;refine(Tx.nil v4).one 45 45 rfl (by omega) rfl _ _ rfl rfl rfl (by omega) ?_)
    intro ra rc v5 T5;go_wp2_with fail;go_meet
    case rel=>exact⟨ra,1,rc,rfl,by omega,T5⟩
 case rest=>
 rename World=>v5
 obtain⟨ra,n1,rc,rfl,hn1,T5⟩:=hcut;have b5:=T5.2.2.1;have cs5:=cs.below b5;have cp5:=cp.below b5;clear q0 p2;have q0:=cp5.cell 0 rfl;have p0:=cs5.cell 0 rfl;have p1:=cs5.cell 1 rfl;rcases HC5.out with rfl|rfl|⟨t1,t4,l1,hp⟩
 . go_wp2_with (at_builtin;refine T5.str rfl _ _ rfl rfl _ 3 [105,110,102] rfl rfl rfl (by omega) ?_)
   intro ra9 rc9 v9 T9;have cr9:=cr.below T9.2.2.1;have r0:=cr9.cell 0 rfl;have r1:=cr9.cell 1 rfl;have z0:=cr9.frozen 0;have z1:=cr9.frozen 1;go_wp2_with fail;refine bodyPost_ret (v:=.agg #[.slice ra9 (n1+3) rc9,.int .i64 0]) (by simp[results,Tryz.results87,go_sem,r0,r1]) rfl ?_
   exact jK T9 (by cases ng<;>simp[M.sgl]) b0 lr 0 (by omega)
 . have e14:((1:Int)==4)=false:=by decide
   go_wp2_with (at_builtin;refine T5.one 48 48 rfl (by omega) rfl _ _ rfl rfl rfl (by omega) ?_)
   intro ra9 rc9 v9 T9;have cr9:=cr.below T9.2.2.1;have r0:=cr9.cell 0 rfl;have r1:=cr9.cell 1 rfl;have z0:=cr9.frozen 0;have z1:=cr9.frozen 1;go_wp2_with fail;refine bodyPost_ret (v:=.agg #[.slice ra9 (n1+1) rc9,.int .i64 0]) (by simp[results,Tryz.results87,go_sem,r0,r1]) rfl ?_
   exact jK T9 (by cases ng<;>simp[M.sgl]) b0 lr 0 (by omega)
 obtain⟨p,ep⟩:∃p,(ds.length:Int)+x=p:=⟨_,rfl⟩;rw[ep]at hp
 have l1':(ds.length=0/\p=0)\/(1<=ds.length/\ds.length<=100):=by
  rcases l1 with⟨rfl,rfl⟩|l1
  . exact .inl ⟨rfl,by simpa using ep.symm⟩
  . exact .inr l1
 have hw:IntKind.i64.wrap ((ds.length:Int)+x)=p:=by rw[IntKind.wrap_i64];omega
 have e1:(tc==1)=false:=beq_eq_false_iff_ne.2 t1;have e4:(tc==4)=false:=beq_eq_false_iff_ne.2 t4;have hrd:=oS.rd;obtain⟨sa',sc',es,hcap,hcm,hno,h256,hblk⟩:=oS;cases es
 have HR:Hid (∀u,Below v4.heap.size v4 u->RdB u sa ds):=hid (fun u hu=>hrd.below hu)
 have H9:=hid (show ∀y∈M.sgl ng++M.pt ds p,y<256 from fun y hy=>(List.mem_append.1 hy).elim (M.M6 ng y) (M.OZ ds p h256 y))
 have HBL:=hid hblk;clear hrd hblk h256 ep HC5 l1;generalize hgm:ds.length=m at*;have HM:=hid hgm;clear hgm
 have D1:∀v,Below v4.heap.size v4 v->(fun v:World=>v.cell? ⟨gs,0,none⟩=some (.slice sa m sc)) v:=fun v hv=>(cs.below hv).cell 0 rfl
 go_upto_region 20 with fail
 by_cases h3:p<=0/\ -6<p
 . have a2:-6<p:=h3.2;have a1:¬0<p:=by omega
   clear h3;obtain⟨z,ez⟩:∃z:Nat,p= -(z:Int):=⟨(-p).toNat,by omega⟩;have hpt:M.pt ds p=48::46::(List.replicate z 48++ds):=by unfold M.pt;rw[if_neg (by omega),if_pos (by omega),show(-p).toNat=z by omega]
   have a3:p<=0:=by omega
   have HPT:=hid hpt;have HEZ:=hid ez;clear hpt ez
   go_wp2_with (at_builtin;refine T5.str rfl _ _ rfl rfl _ 2 [48,46] rfl rfl rfl (by omega) ?_)
   intro ra6 rc6 v6 T6;go_wp2_with fail
   go_loopw [6,11] (fun tv jv wx=>∃(t:Nat)(oa:Option Addr)(oc:Nat),t<=z/\jv=.int .i64 (p+(t:Int))/\tv=.slice oa (n1+2+t) oc/\Tx v4.heap.size v4 wx oa (n1+2+t) oc (M.sgl ng++([48,46]++List.replicate t 48))) (fun _ jv _=>z-(intOf jv-p).toNat)
   case atStart=>exact⟨0,ra6,rc6,Nat.zero_le _,by simp,rfl,by simpa using T6⟩
   case round=>
    rename World=>wx
    obtain⟨t,oa,oc,ht,rfl,rfl,hx⟩:=hrel
    by_cases hlt:t<z
    . have hlt':p+(t:Int)<0:=by have:=HEZ.out;omega
      have hinc:IntKind.i64.wrap (p+(t:Int)+1)=p+((t+1:Nat):Int):=by rw[IntKind.wrap_i64];have:=HEZ.out;omega
      go_wp2_with (at_builtin;refine hx.one 48 48 rfl (by omega) rfl _ _ rfl rfl rfl (by omega) ?_)
      intro oa2 oc2 w2 h2;go_wp2_with fail;go_roundw
      case rel=>
       refine⟨t+1,oa2,oc2,by omega,by first|rfl|go_num,rfl,?_⟩;rw[List.replicate_succ'];exact h2
      case measure=>simp[intOf];omega
    . have hlt':¬p+(t:Int)<0:=by have:=HEZ.out;omega
      have e:t=z:=by omega
      subst e;have cs8:=cs.below hx.2.2.1;have p0:=cs8.cell 0 rfl
      go_wp2_with (at_builtin;refine hx.src rfl _ _ rfl rfl sa m sc ds rfl HM.out hno (HR.out wx hx.2.2.1) (by have:=HEZ.out;omega) ?_)
      intro ra9 rc9 v9 T9;replace T9:Tx v4.heap.size v4 v9 ra9 (n1+2+t+m) rc9 (M.sgl ng++M.pt ds p):=by rw[HPT.out];simpa using T9
      have cr9:=cr.below T9.2.2.1;have r0:=cr9.cell 0 rfl;have r1:=cr9.cell 1 rfl;have z0:=cr9.frozen 0;have z1:=cr9.frozen 1;go_wp2_with fail;refine bodyPost_ret (v:=.agg #[.slice ra9 (n1+2+t+m) rc9,.int .i64 0]) (by simp[results,Tryz.results87,go_sem,r0,r1]) rfl ?_;exact jK T9 H9.out b0 lr 0 (by have:=HEZ.out;omega)
 have hm1:1<=m/\m<=100:=by omega
 obtain⟨hm1,hm2⟩:=hm1;obtain⟨sb,so,cur,rfl,_,_,_⟩:=HBL.out (by omega);clear l1' HBL
 by_cases hD:p< -5\/21<p
 . obtain⟨mid,emid⟩:∃mid,mid=if 1<m then 46::ds.drop 1 else[]:=⟨_,rfl⟩;have hpt:M.pt ds p=ds.take 1++(mid++(101::M.gQ (p-1))):=by unfold M.pt;rw[if_pos hD,HM.out,emid]
   have hw1:IntKind.i64.wrap (p-1)=p-1:=by rw[IntKind.wrap_i64];omega
   have hrw:=HR.out v5 T5.2.2.1;have h256:ds.getD 0 0<256:=M.bG (by omega) hrw.1 0;obtain⟨b',off',e,hcell⟩:=hrw.2 (by rw[HM.out];omega);cases e;have c00:=hcell 0 (by rw[HM.out];omega);rw[Nat.add_zero]at c00;rw[I7 ds (by rw[HM.out];omega)]at hpt;obtain⟨c0,ec⟩:∃c0,c0=ds.getD 0 0:=⟨_,rfl⟩;rw[<-ec]at c00 h256 hpt;have HPT:=hid hpt;have HMID:=hid emid;clear hpt hcell hrw ec emid;have m0:(0:Int)<(m:Int):=by omega
   have HP:=hid hp;clear hp;have hDD:(0<p/\¬p<=21/\¬p<=0)\/(¬0<p/\p<=0/\¬ -6<p):=by omega
   clear hD;rcases hDD with⟨a1,a2,a3⟩|⟨a1,a2,a3⟩
   all_goals go_upto_region 16 with fail
   all_goals
    go_wp2_with (at_builtin;refine T5.one (c0:Int) c0 rfl h256 rfl _ _ rfl rfl rfl (by omega) ?_)
    intro ra6 rc6 v6 T6;go_upto_if 63 with fail
    go_cut[6] (fun z wx=>∃ra n rc,z=.slice ra n rc/\n<=20000/\Tx v4.heap.size v4 wx ra n rc (M.sgl ng++([c0]++mid)))
    case first=>
     by_cases h1:1<m
     . have hmid:mid=46::ds.drop 1:=by rw[HMID.out,if_pos h1]
       have HMI:=hid hmid;clear hmid;have h1':(1:Int)<(m:Int):=by omega
       have c1:(1:Int)<=(m:Int):=by omega
       have c2:(m:Int)<=(sc:Int):=by omega
       have c3:¬sc=1:=by omega
       have c4:(1:Int)<=(sc:Int):=by omega
       have T6d:=T6.drew;go_wp2_with fail
       go_region_held3 (fun v:World=>v.cell? ⟨gs,0,none⟩=some (.slice (some ⟨sb,so,none⟩) m sc)) (first|exact D1 _ T6d.2.2.1|exact D1 _ (T6d.alloc _).2.2.1|exact D1 _ T7.2.2.1|exact D1 _ T8.2.2.1)
        (first
          |(refine(T6d.alloc (.cells #[.int .u8 46] 5)).step rfl _ _ rfl rfl ⟨v6.heap.size,0,none⟩ 1 1 [46] rfl rfl (by omega) (qW v6.drew 46 (by omega)) (by omega) ?_;intro g7 rc7 v7 T7 G7)
          |(refine T7.step rfl _ _ rfl rfl ⟨sb,so+1,none⟩ (m-1) (sc-1) (ds.drop 1) rfl (by rw[List.length_drop,HM.out]) (by omega) ((HR.out v7 T7.2.2.1).tail 1) (by omega) ?_;intro g8 rc8 v8 T8 G8))
       go_wp2_with fail;go_meet
       case rel=>exact⟨_,_,_,rfl,by omega,by rw[HMI.out];simpa using T8⟩
     . have hmid:mid=[]:=by rw[HMID.out,if_neg h1]
       have h1':¬(1:Int)<(m:Int):=by omega
       have HMI:=hid hmid;clear hmid;go_wp2_with fail;go_meet
       case rel=>exact⟨_,_,_,rfl,by omega,by rw[HMI.out];simpa using T6⟩
    case rest=>
    rename World=>v7
    obtain⟨ra7,n7,rc7,rfl,hn7,T7⟩:=hcut
    go_wp2_with (at_builtin;refine T7.one 101 101 rfl (by omega) rfl _ _ rfl rfl rfl (by omega) ?_)
    intro ra8 rc8 v8 T8;go_wp2_with fail;refine(pW (p-1) (by have:=HP.out;omega) _).mono ?_;rintro e vA ⟨ia,ic,rfl,rI,hic,hbI⟩;have TA:=T8.below hbI;have rB:RdB vA ia (M.gQ (p-1)):=⟨M.jX _,rI⟩;have hle:=M.JD (p-1) (by have:=HP.out;omega);obtain⟨ib,io,rfl,_⟩:=rI (M.oT _)
    go_wp2_with (at_builtin;refine TA.src rfl _ _ rfl rfl (some ⟨ib,io,none⟩) _ ic (M.gQ (p-1)) rfl rfl (fun e=>by cases e) rB (by omega) ?_)
    intro ra9 rc9 v9 T9;replace T9:Tx v4.heap.size v4 v9 ra9 (n7+1+(M.gQ (p-1)).length) rc9 (M.sgl ng++M.pt ds p):=by rw[HPT.out];simpa using T9
    have cr9:=cr.below T9.2.2.1;have r0:=cr9.cell 0 rfl;have r1:=cr9.cell 1 rfl;have z0:=cr9.frozen 0;have z1:=cr9.frozen 1;go_wp2_with fail;refine bodyPost_ret (v:=.agg #[.slice ra9 (n7+1+(M.gQ (p-1)).length) rc9,.int .i64 0]) (by simp[results,Tryz.results87,go_sem,r0,r1]) rfl ?_;exact jK T9 H9.out b0 lr 0 (by omega)
 have a1:0<p:=by omega
 . have a2:p<=21:=by omega
   by_cases a3:(m:Int)<=p
   . obtain⟨z,ez⟩:∃z:Nat,p=(m:Int)+(z:Int):=⟨(p-(m:Int)).toNat,by omega⟩;have hpt:M.pt ds p=ds++List.replicate z 48:=by unfold M.pt;rw[if_neg (by omega),if_neg (by omega),HM.out,if_pos a3,show(p-(m:Int)).toNat=z by omega]
     have HPT:=hid hpt;have HEZ:=hid ez;clear hpt ez
     go_wp2_with (at_builtin;refine T5.src rfl _ _ rfl rfl (some ⟨sb,so,none⟩) m sc ds rfl HM.out (fun e=>by cases e) (HR.out v5 T5.2.2.1) (by omega) ?_)
     intro ra6 rc6 v6 T6;go_wp2_with fail
     go_loopw [6,10] (fun tv jv wx=>∃(t:Nat)(oa:Option Addr)(oc:Nat),t<=z/\jv=.int .i64 ((m:Int)+(t:Int))/\tv=.slice oa (n1+m+t) oc/\Tx v4.heap.size v4 wx oa (n1+m+t) oc (M.sgl ng++(ds++List.replicate t 48))) (fun _ jv _=>z-(intOf jv-(m:Int)).toNat)
     case atStart=>exact⟨0,ra6,rc6,Nat.zero_le _,by simp,rfl,by simpa using T6⟩
     case round=>
      rename World=>wx
      obtain⟨t,ra9,rc9,ht,rfl,rfl,hx⟩:=hrel
      by_cases hlt:t<z
      . have hlt':(m:Int)+(t:Int)<p:=by have:=HEZ.out;omega
        have hinc:IntKind.i64.wrap ((m:Int)+(t:Int)+1)=(m:Int)+((t+1:Nat):Int):=by rw[IntKind.wrap_i64];have:=HEZ.out;omega
        go_wp2_with (at_builtin;refine hx.one 48 48 rfl (by omega) rfl _ _ rfl rfl rfl (by omega) ?_)
        intro oa2 oc2 w2 h2;go_wp2_with fail;go_roundw
        case rel=>
         refine⟨t+1,oa2,oc2,by omega,by first|rfl|go_num,rfl,?_⟩;rw[List.replicate_succ'];exact h2
        case measure=>simp[intOf];omega
      . have hlt':¬(m:Int)+(t:Int)<p:=by have:=HEZ.out;omega
        have e:t=z:=by omega
        subst e;have T9:Tx v4.heap.size v4 wx ra9 (n1+m+t) rc9 (M.sgl ng++M.pt ds p):=by rw[HPT.out];exact hx
        clear hx;have cr9:=cr.below T9.2.2.1;have r0:=cr9.cell 0 rfl;have r1:=cr9.cell 1 rfl;have z0:=cr9.frozen 0;have z1:=cr9.frozen 1;go_wp2_with fail;refine bodyPost_ret (v:=.agg #[.slice ra9 (n1+m+t) rc9,.int .i64 0]) (by simp[results,Tryz.results87,go_sem,r0,r1]) rfl ?_;exact jK T9 H9.out b0 lr 0 (by have:=HEZ.out;omega)
   . obtain⟨q,eq⟩:∃q:Nat,p=(q:Int):=⟨p.toNat,by omega⟩;have hpt:M.pt ds p=ds.take q++(46::ds.drop q):=by unfold M.pt;rw[if_neg (by omega),if_neg (by omega),HM.out,if_neg (by omega),show p.toNat=q by omega]
     have HPT:=hid hpt;clear hpt;subst eq;have c1:(0:Int)<=(q:Int):=by omega
     have c2:(q:Int)<=(m:Int):=by omega
     have c3:(q:Int)<=(sc:Int):=by omega
     have c4:(m:Int)<=(sc:Int):=by omega
     have c5:¬sc-q=0:=by omega
     have c6:¬sc=q:=by omega
     have T5d:=T5.drew
     have lt5:∀k,(Value.slice ra n1 rc).ownBlock=some k->k<v5.heap.size:=fun k hk=>(T5.2.1.lt k hk).2
     have l46:(ds.take q).length=q:=by rw[List.length_take,HM.out];omega
     have L46:=hid l46;clear l46;go_wp2_with fail
     go_region_held3 (fun v:World=>v.cell? ⟨gs,0,none⟩=some (.slice (some ⟨sb,so,none⟩) m sc)) (first|exact D1 _ T5d.2.2.1|exact D1 _ (T5d.alloc _).2.2.1|exact D1 _ T6.2.2.1|exact D1 _ (T6.alloc _).2.2.1|exact D1 _ T7.2.2.1|exact D1 _ T9.2.2.1)
      (first
        |(refine T5d.step rfl _ _ rfl rfl ⟨sb,so,none⟩ q sc (ds.take q) rfl L46.out (by omega) ((HR.out _ T5d.2.2.1).front q) (by omega) ?_;intro g6 rc6 v6 T6 G6)
        |(refine(T5d.alloc (.cells #[.int .u8 46] 5)).step rfl _ _ rfl rfl ⟨sb,so,none⟩ q sc (ds.take q) rfl L46.out (by omega) ((HR.out _ (T5d.alloc _).2.2.1).front q) (by omega) ?_;intro g6 rc6 v6 T6 G6)
        |(refine(T6.alloc (.cells #[.int .u8 46] 5)).step rfl _ _ rfl rfl ⟨v6.heap.size,0,none⟩ 1 1 [46] rfl rfl (by omega) (qW v6 46 (by omega)) (by omega) ?_;intro g7 rc7 v7 T7 G7)
        |(refine T6.step rfl _ _ rfl rfl ⟨v5.heap.size,0,none⟩ 1 1 [46] rfl rfl (by omega) (KX (w:=v5.drew) 46 (by omega) G6 lt5) (by omega) ?_;intro g7 rc7 v7 T7 G7)
        |(refine T7.step rfl _ _ rfl rfl ⟨sb,so+q,none⟩ (m-q) (sc-q) (ds.drop q) rfl (by rw[List.length_drop,HM.out]) (by omega) ((HR.out v7 T7.2.2.1).tail q) (by omega) ?_;intro g9 rc9 v9 T9 G9))
     all_goals
      replace T9:Tx v4.heap.size v4 v9 (some ⟨g9,0,none⟩) (n1+q+1+(m-q)) rc9 (M.sgl ng++M.pt ds (q:Int)):=by rw[HPT.out];simpa using T9
      have cr9:=cr.below T9.2.2.1;have r0:=cr9.cell 0 rfl;have r1:=cr9.cell 1 rfl;have z0:=cr9.frozen 0;have z1:=cr9.frozen 1;go_wp2_with fail;refine bodyPost_ret (v:=.agg #[.slice (some ⟨g9,0,none⟩) (n1+q+1+(m-q)) rc9,.int .i64 0]) (by simp[results,Tryz.results87,go_sem,r0,r1]) rfl ?_;exact jK T9 H9.out b0 lr 0 (by omega)

end Go.Proofs.YtfdgkleoaehjaaaGreatDoor
