import Derived.Test.YtfdgkleoaehjaaaGreatDoorfGBG
set_option maxHeartbeats 4000000
set_option maxRecDepth 100000
namespace Go.Proofs.YtfdgkleoaehjaaaGreatDoor
open Go.RowKit
set_option linter.unusedVariables false
set_option maxRecDepth 100000

theorem Rd.far_rdr {w0 v:World}{ao:Option Addr}{n c:Nat}(h:Rs w0 v ao n c){a:Option Addr}{xs:List Nat}(hr:Rd v a xs):∀b o,0<xs.length->a=some ⟨b,o,none⟩->b≠w0.heap.size:=by
 intro b o hp e eb;obtain⟨b',o',e',hc⟩:=hr hp;rw[e]at e';simp only[Option.some.injEq,Addr.mk.injEq]at e';obtain⟨rfl,rfl,-⟩:=e';obtain⟨i,_,hi,_⟩:=h;have h0:=hc 0 hp;rw[eb,cell_of_row v _ _ _ _ (0,0) hi]at h0
 rcases o with _|_|o<;>simp at h0

structure Mj (w0 v:World)(ao:Option Addr)(n c:Nat)(l:List (Option Addr×Nat)):Prop where
 rs:Rs w0 v ao n c
 rd:∀p∈l,Rd v p.1 (D p.2)

theorem Mj.keep {w0 v v':World}{ao:Option Addr}{n c:Nat}{l:List (Option Addr×Nat)}(h:Mj w0 v ao n c l)(hb:Below v.heap.size v v'):Mj w0 v' ao n c l:=⟨h.rs.keep hb,fun p hp=>(h.rd p hp).below hb⟩

theorem Mj.own {w0 v v':World}{ao:Option Addr}{n c:Nat}{l:List (Option Addr×Nat)}(h:Mj w0 v ao n c l){a:Option Addr}{N k:Nat}(o:v'.ownsRow v.heap.size 25 1 (.slice a (D N).length k) (D N).length (U (D N)))(hb:Below v.heap.size v v'):Mj w0 v' ao n c ((a,N)::l):=
 ⟨h.rs.keep hb,fun p hp=>by rcases List.mem_cons.1 hp with rfl|hp;exact Rd.own o;exact(h.rd p hp).below hb⟩

theorem Mj.sx {w0 v v':World}{ao:Option Addr}{n c:Nat}{l:List (Option Addr×Nat)}(h:Mj w0 v ao n c l)(hr:Rs w0 v' ao n c)(hx:Sx w0.heap.size v v'):Mj w0 v' ao n c l:=⟨hr,fun p hp=>(h.rd p hp).sx hx (Rd.far_rdr h.rs (h.rd p hp))⟩

theorem Mj.sub {w0 v:World}{ao:Option Addr}{n c:Nat}{l m:List (Option Addr×Nat)}(h:Mj w0 v ao n c l)(hm:∀p∈m,p∈l):Mj w0 v ao n c m:=⟨h.rs,fun p hp=>h.rd p (hm p hp)⟩

theorem pG (N K:Nat)(h:(D N).length<=K):(M.txt N).length<=32*K+1:=by
 refine M.lY (32*K) N ?_;have h1:=mZ N K h;have e:(4294967296:Nat)^K=2^(32*K):=by rw[Nat.pow_mul]
 rw[e]at h1;exact Nat.lt_of_lt_of_le h1 (Nat.le_trans (Nat.pow_le_pow_left (by omega) _) (Nat.pow_le_pow_right (by omega) (by omega)))

theorem wM {w0 v v1 v2:World}{ao:Option Addr}{n c:Nat}{l:List (Option Addr×Nat)}(J:Mj w0 v ao n c l)(hb:Below v.heap.size v v1){ra:Option Addr}{m rc:Nat}{xs:List Nat}(T:Tx v1.heap.size v1 v2 ra m rc xs)(hx:∀x∈xs,x<256)(hm:m<=100000):Mj w0 v2 ao n c l/\Nt w0 v2 ao n c ra m rc:=by
 have J1:=J.keep hb;have J2:=J1.keep T.2.2.1;exact⟨J2,J2.rs,(Tw.of_own T.2.1 hm hx).low J1.rs.lt⟩

theorem O5 (a b c d e:Int)(x:Bool)(v:World):Sem.run Tryz.prog (Instr.field 37 (.agg #[.int .i64 a,.int .i64 b,.int .i64 c,.int .i64 d,.int .i64 e,.bool x]) 0) v=.ok (.int .i64 a) v:=by kernel_rfl

theorem AR (f f':Int)(F:M.Fm){w0 v:World}{ao:Option Addr}{n c:Nat}{bs:List Nat}(hl:bs.length=n)(hn:n<=1048576)(hb:RdB w0 ao bs)(h:Rs w0 v ao n c)(hp1:2<=F.p)(hp2:F.p<=113)
 (hf:(f<0\/4<=f)/\f'=0\/(0<=f/\f<4)/\f'=f)
 (kW:∀v,Rs w0 v ao n c->Calls Tryz.prog 88 #[.pointer (some ⟨w0.heap.size,0,none⟩),.int .i64 f'] v fun e v'=>∃X:Nat,X<2^128/\e=.returned (.agg #[.int .u64 (M.hiN X:Int),.int .u64 (M.loN X:Int)])/\Rs w0 v' ao n c)
 (kU:∀(X:Nat)(v:World),X<2^128->Calls Tryz.prog 67 #[.int .i64 f',.agg #[.int .u64 (M.hiN X:Int),.int .u64 (M.loN X:Int)]] v fun e v'=>∃(cl:Int)(ng:Bool)(s:Nat)(q:Int),e=.returned (.agg #[.int .i64 cl,.bool ng,.int .u64 (M.hiN s:Int),.int .u64 (M.loN s:Int),.int .i64 q])/\(cl=3\/cl=2->1<=s/\s<2^128)/\Below v.heap.size v v')
 (kE:∀v:World,Calls Tryz.prog 9 #[.int .i64 f'] v fun e w'=>e=.returned (dv F)/\Below v.heap.size v w')
 (kS:∀(cl:Int)(ng:Bool)(s:Nat)(q:Int)(v:World),1<=s->s<2^128-> -300<=q->q<=300->Calls Tryz.prog 119 #[.int .i64 f',.agg #[.int .i64 cl,.bool ng,.int .u64 (M.hiN s:Int),.int .u64 (M.loN s:Int),.int .i64 q]] v fun e w'=>∃A B,(1<=A/\1<=B)/\(D A).length<=1500/\(D B).length<=1500/\Sp3 v w' e A B (2^(2-q).toNat)):
 Calls Tryz.prog 89 #[.pointer (some ⟨w0.heap.size,0,none⟩),.int .i64 f] v fun e v'=>TxA w0 ao n c e v':=by
 have fp:=O5;simp only[dv]at kE;have H:=hid h;clear h;go_enter Tryz.func89,Tryz.ntmps89;go_upto_region 1 with fail
 go_cut[18] (fun z wx=>∃b:Bool,z=.bool b/\(b=true->f'=0)/\(b=false->f'=f)/\wx=v)
 case first=>
  as_aux_lemma=>
  rcases hf with⟨hf,rfl⟩|⟨hf,rfl⟩
  . by_cases hf0:f<0
    . go_wp2_with fail;go_meet
      case rel=>exact⟨true,by simp,by simp,by simp,rfl⟩
    . have hf4:4<=f:=by omega
      go_wp2_with fail;go_meet
      case rel=>exact⟨true,by simp,by simp,by simp,rfl⟩
  . have hf0:¬f'<0:=by omega
    have hf4:¬4<=f':=by omega
    go_wp2_with fail;go_meet
    case rel=>exact⟨false,by simp,by simp,by simp,rfl⟩
 case rest=>
 as_aux_lemma=>
 rename World=>vz
 obtain⟨b,rfl,hb0,hb1,rfl⟩:=hcut;go_upto_if 18 with fail
 go_cut[1,18] (fun z _ wx=>z=.int .i64 f'/\wx=vz)
 case first=>
  as_aux_lemma=>
  cases b with
  |true=>
   obtain rfl:=hb0 rfl;go_wp2_with fail;go_meet
   case rel=>exact⟨rfl,rfl⟩
  |false=>
   obtain rfl:=hb1 rfl;go_wp2_with fail;go_meet
   case rel=>exact⟨rfl,rfl⟩
 case rest=>
 as_aux_lemma=>
 rename World=>va
 obtain⟨rfl,rfl⟩:=hcut;go_wp2_with fail;refine(kW _ H.out).mono ?_;rintro e v1 ⟨X,hX,rfl,h1⟩;go_wp2_with fail;refine(kU X _ hX).mono ?_;rintro e v2 ⟨cl,ng,s,q,rfl,hs,hb2⟩;have cB:=Cls.new v2 #[.int .i64 cl,.bool ng,.int .u64 (M.hiN s:Int),.int .u64 (M.loN s:Int),.int .i64 q] 67;have h2:=(h1.keep hb2).alloc (.cells #[.int .i64 cl,.bool ng,.int .u64 (M.hiN s:Int),.int .u64 (M.loN s:Int),.int .i64 q] 67);have hg:w0.heap.size<v2.heap.size:=(h1.keep hb2).lt;clear h1 hb2 H kW kU hf hb0 hb1;go_upto_region 4 with fail;generalize v2.alloc (.cells #[.int .i64 cl,.bool ng,.int .u64 (M.hiN s:Int),.int .u64 (M.loN s:Int),.int .i64 q] 67)=v3 at*;generalize v2.heap.size=g at*;have HB:=hid cB;have H2:=hid h2;have c0:=cB.cell 0 rfl;have c4:=cB.cell 4 rfl;clear cB h2
 go_cut[41] (fun z wx=>∃b:Bool,z=.bool b/\(b=false->(cl=3\/cl=2)/\ -300<=q/\q<=300)/\wx=v3)
 case first=>
  as_aux_lemma=>
  by_cases hc:cl=3\/cl=2
  . have hc':(cl=3/\(cl !=3)=false)\/((cl !=3)=true/\(cl !=2)=false):=by
     rcases hc with rfl|rfl
     . exact .inl ⟨rfl,rfl⟩
     . exact .inr ⟨rfl,rfl⟩
    have HC:=hid hc;clear hc
    by_cases q1:q< -300
    . rcases hc' with⟨_,d3⟩|⟨d3,d2⟩
      all_goals
       go_wp2_with fail;go_meet;exact⟨true,by simp,by simp,rfl⟩
    by_cases q2:300<q
    . rcases hc' with⟨_,d3⟩|⟨d3,d2⟩
      all_goals
       go_wp2_with fail;go_meet;exact⟨true,by simp,by simp,rfl⟩
    . have HQ:=hid (show-300<=q/\q<=300 by omega);rcases hc' with⟨_,d3⟩|⟨d3,d2⟩
      all_goals
       go_wp2_with fail;go_meet
       exact⟨false,by simp,fun _=>⟨HC.out,HQ.out⟩,rfl⟩
  . have d3:(cl !=3)=true:=by simp;omega
    have d2:(cl !=2)=true:=by simp;omega
    clear hc;go_wp2_with fail;go_meet
    case rel=>exact⟨true,by simp,by simp,rfl⟩
 case rest=>
 as_aux_lemma=>
 rename World=>vy
 obtain⟨b,rfl,hb0,rfl⟩:=hcut;clear c0 c4;have hp3:IntKind.i64.wrap ((F.p:Int)-1)=((F.p-1:Nat):Int):=by rw[IntKind.wrap_i64];omega
 go_upto_if 41 with fail
 go_cut[41] (fun _ wx=>∃(cl:Int)(ng:Bool)(s:Nat)(q:Int),(1<=s/\s<2^128)/\(-300<=q/\q<=300)/\Rs w0 wx ao n c/\Cls wx g #[.int .i64 cl,.bool ng,.int .u64 (M.hiN s:Int),.int .u64 (M.loN s:Int),.int .i64 q] 67)
 case first=>
  as_aux_lemma=>
  cases b with
  |false=>
   obtain⟨hc,hq⟩:=hb0 rfl;go_wp2_with fail;go_meet
   case rel=>exact⟨cl,ng,s,q,hs hc,hq,H2.out,HB.out⟩
  |true=>
   go_wp2_with fail;refine(kE _).mono ?_;rintro e u1 ⟨rfl,hb1⟩;have R1:=hid (H2.out.keep hb1);have B1:=hid (HB.out.below hb1);clear hb1;go_wp2_with fail;refine(jG (F.p-1) _ (by omega)).mono ?_;rintro e u2 ⟨ta,tc,rfl,town,hb2⟩;have R2:=hid (R1.out.keep hb2);have B2:=hid (B1.out.below hb2);have hlt:2^(F.p-1)<2^128:=Nat.pow_lt_pow_right (by omega) (by omega);have hge:1<=2^(F.p-1):=Nat.pow_pos (by omega);have rt:=Rd.own town;generalize 2^(F.p-1)=S at*;clear hb2 town R1 B1;go_wp2_with fail;refine(fC ta _ tc S _ rfl hlt rt).mono ?_;rintro e u3 ⟨rfl,hb3⟩;have R3:=hid (R2.out.keep hb3);have B3:=hid (B2.out.below hb3);clear hb3 R2 B2 rt;go_wp2_with fail;refine(cQ hl hn hb R3.out).mono ?_;rintro e u4 ⟨x,hx,rfl,r4,s4⟩;have R4:=hid r4;have B4:=s4.cls B3.out (by omega);clear r4 s4 R3 B3;obtain⟨y,hy⟩:∃y:Nat,y=x%40:=⟨_,rfl⟩;have yk:(x:Int)%40=(y:Int):=by omega
   have y4:y<40:=by omega
   have wy:IntKind.i64.wrap ((y:Int)-60)=(y:Int)-60:=by rw[IntKind.wrap_i64];omega
   clear hy;have c0:=B4.cell 0 rfl;have c1:=B4.cell 1 rfl;have c2:=B4.cell 2 rfl;have c3:=B4.cell 3 rfl;have c4:=B4.cell 4 rfl;have z:=B4.frozen;go_wp2_with fail;go_meet
   case rel=>
    refine⟨3,false,S,(y:Int)-60,⟨hge,hlt⟩,by omega,?_,?_⟩
    . exact((((R4.out.set g 0 _ hg).set g 1 _ hg).set g 2 _ hg).set g 3 _ hg).set g 4 _ hg
    . exact((((B4.set 0 _ _ rfl).set 1 _ _ rfl).set 2 _ _ rfl).set 3 _ _ rfl).set 4 _ _ rfl
 case rest=>
 as_aux_lemma=>
 rename World=>v4
 clear HB H2 hs hb0;obtain⟨cl,ng,s,q,hs,hq,h4,B4⟩:=hcut;have R4:=hid h4;clear h4;have HB4:=hid B4;have c0:=B4.cell 0 rfl;have c1:=B4.cell 1 rfl;have c2:=B4.cell 2 rfl;have c3:=B4.cell 3 rfl;have c4:=B4.cell 4 rfl;clear B4;go_wp2_with fail;refine(kS cl ng s q _ hs.1 hs.2 hq.1 hq.2).mono ?_;rintro e v5 ⟨A,B,hAB,lA,lB,aa,ca,ba,cb,da,cd,rfl,rA,rB,rD,hb5⟩;obtain⟨E,hE⟩:∃E:Nat,E=(2-q).toNat:=⟨_,rfl⟩;have hE2:E<=302:=by omega
 rw[<-hE]at rD|-;obtain⟨C,hC⟩:∃C:Nat,C=2^E:=⟨_,rfl⟩;rw[<-hC]at rD|-
 have J5:=hid (show Mj w0 v5 ao n c [(aa,A),(ba,B),(da,C)]from⟨R4.out.keep hb5,fun p hp=>by
  simp at hp
  rcases hp with rfl|rfl|rfl
  . exact rA
  . exact rB
  . exact rD⟩)
 have B5:=hid (HB4.out.below hb5)
 have KS:=hid (fun v:World=>kS cl ng s q v hs.1 hs.2 hq.1 hq.2)
 rw[<-hE,<-hC]at KS;have HC:=hid hC;clear rA rB rD hb5 HB4 R4 kS kE hE hC hs hq c0 c1 c2 c3 c4;go_wp2_with fail;refine(cQ hl hn hb J5.out.rs).mono ?_;rintro e v6 ⟨x,hx,rfl,r6,s6⟩;have J6:=hid (J5.out.sx r6 s6);have B6:=s6.cls B5.out (by omega);clear J5 B5 r6 s6;go_upto_if 63 with fail
 go_cut[7,8] (fun z y wx=>∃(N:Nat)(a:Option Addr)(ca:Nat)(d:Option Addr)(cd:Nat),z=.slice a (D N).length ca/\y=.slice d (D C).length cd/\1<=N/\(D N).length<=1500/\Mj w0 wx ao n c [(a,N),(d,C)])
 case first=>
  as_aux_lemma=>
  by_cases h2:x%2=1
  . have h2':(x:Int)%2=1:=by omega
    have c0:=B6.cell 0 rfl;have c1:=B6.cell 1 rfl;have c2:=B6.cell 2 rfl;have c3:=B6.cell 3 rfl;have c4:=B6.cell 4 rfl;go_wp2_with fail;refine(KS.out _).mono ?_;rintro e v7 ⟨A2,B2,hAB2,lA2,lB2,aa2,ca2,ba2,cb2,da2,cd2,rfl,rA,rB,rD,hb7⟩
    have J7:=hid (show Mj w0 v7 ao n c [(aa2,A2),(da2,C)]from⟨J6.out.rs.keep hb7,fun p hp=>by
     simp at hp
     rcases hp with rfl|rfl
     . exact rA
     . exact rD⟩)
    clear rA rB rD hb7 c0 c1 c2 c3 c4;go_wp2_with fail;go_meet
    case rel=>exact⟨A2,aa2,ca2,da2,cd2,rfl,rfl,hAB2.1,lA2,J7.out⟩
  . have h2':((x:Int)%2==1)=false:=by simp;omega
    go_wp2_with fail;go_meet
    case rel=>exact⟨B,ba,cb,da,cd,rfl,rfl,hAB.2,lB,J6.out.sub (by simp)⟩
 case rest=>
 as_aux_lemma=>
 rename World=>v7
 clear J6 B6 KS lA lB hAB;obtain⟨N,na,nc,da,cd,rfl,rfl,hN1,hNl,j7⟩:=hcut;have J7:=hid j7;clear j7;have lC:(D C).length<=20:=by rw[HC.out];exact aE _ (E+1) 20 (Nat.pow_lt_pow_right (by omega) (by omega)) (by omega)
 have hw9:IntKind.i64.wrap (((E+1:Nat):Int)-1)=(E:Int):=by rw[IntKind.wrap_i64];omega
 go_wp2_with fail;refine(aW da _ cd C _ rfl (by omega) (J7.out.rd (da,C) (by simp)) (E+1) (by rw[HC.out];exact(iT _ _ (by rw[Nat.add_sub_cancel];exact Nat.le_refl _) (Nat.pow_lt_pow_right (by omega) (by omega)) (by omega)).symm)).mono ?_;rintro e v8 ⟨rfl,rfl⟩;have J8:=hid (J7.out.sub (m:=[(na,N)]) (by simp));clear J7 lC;go_wp2_with fail
 go_loopw [10,11] (fun nv jv wx=>∃(j M2:Nat)(a:Option Addr)(ca:Nat),j<=E/\jv=.int .i64 (j:Int)/\nv=.slice a (D M2).length ca/\1<=M2/\(D M2).length<=1500+j/\Mj w0 wx ao n c [(a,M2)]) (fun _ jv _=>E-(intOf jv).toNat)
 case atStart=>exact⟨0,N,na,nc,Nat.zero_le _,rfl,rfl,hN1,by omega,J8.out⟩
 case round=>
  rename World=>wx
  obtain⟨j,M2,ma,mc,hj,rfl,rfl,hM1,hMl,j9⟩:=hrel;have J9:=hid j9;clear j9 J8
  by_cases hlt:j<E
  . as_aux_lemma=>
    have hlt':(j:Int)<(E:Int):=by omega
    have hinc:IntKind.i64.wrap ((j:Int)+1)=((j+1:Nat):Int):=by rw[IntKind.wrap_i64];omega
    go_wp2_with fail;refine(fE ma _ mc 5 M2 _ rfl (by omega) (by omega) (J9.out.rd (ma,M2) (by simp))).mono ?_;rintro e u1 ⟨pa,pc,rfl,o,hb1⟩;have J10:=hid ((J9.out.own o hb1).sub (m:=[(pa,M2*5)]) (by simp));have l5:(D (M2*5)).length<=1500+j+1:=cC _ _ _ _ hMl (aE 5 3 1 (by omega) (by omega));have h5:1<=M2*5:=by omega
    clear o hb1;generalize M2*5=M5 at*;go_wp2_with fail;go_roundw
    case rel=>exact⟨j+1,M5,pa,pc,by omega,rfl,rfl,h5,by omega,J10.out⟩
    case measure=>simp[intOf];omega
  have hlt':¬(j:Int)<(E:Int):=by omega
  have hM8:(D M2).length<=1802:=by omega
  clear hMl hj;go_wp2_with fail;refine(fS ma _ mc M2 _ rfl (by omega) (J9.out.rd (ma,M2) (by simp))).mono ?_;rintro e v9 ⟨_,hY⟩;obtain⟨ta,tc,rfl,town,hb9⟩:=hY (by omega);have tl9:=pG M2 1802 hM8
  have t256:∀y∈M.txt M2++[101],y<256:=fun y hy=>(List.mem_append.1 hy).elim (M.oJ M2 y) (fun k=>by simp at k;omega)
  have T9:Tx wx.heap.size wx v9 ta (M.txt M2).length tc (M.txt M2):=⟨rfl,town,hb9,hb9.size⟩;clear town hb9 hY;obtain⟨m,hm⟩:∃m,m=(M.txt M2).length:=⟨_,rfl⟩;rw[<-hm]at tl9 T9|-;have HM:=hid hm;have H256:=hid t256;clear hm t256
  go_wp2_with (at_builtin;refine T9.one _ 101 rfl (by omega) rfl _ _ rfl rfl rfl (by omega) ?_)
  intro ra rc v10 T10;obtain⟨j10,n10⟩:=wM J9.out (Below.refl _ _) T10 H256.out (by omega);have J10:=hid j10;have N10:=hid n10;clear j10 n10 T9 T10 J9 HM H256
  by_cases h7:700<m+1
  . have h7':(700:Int)<((m+1:Nat):Int):=by omega
    have h7'':(700:Int)<(m:Int)+1:=by omega
    have kc:=Lib.run_convert_bytes_const (P:=Tryz.prog) v10 22 5 #[.int .u8 49,.int .u8 46,.int .u8 53] 3 3 Tryz.underlying22 Tryz.underlying5;have N11:Nt w0 (v10.alloc (.cells #[.int .u8 49,.int .u8 46,.int .u8 53] 5 (3,4))) ao n c (some ⟨v10.heap.size,0,none⟩) 3 3:=⟨J10.out.rs.alloc _,(Tw.of_const v10 [49,46,53] 3 rfl (by omega) (by simp) _ rfl 4).low J10.out.rs.lt⟩;have HN:=hid N11;clear N11;go_wp2_with fail;go_ret;exact⟨_,_,_,rfl,by omega,HN.out⟩
  have h7':¬(700:Int)<((m+1:Nat):Int):=by omega
  have h7'':¬(700:Int)<(m:Int)+1:=by omega
  go_wp2_with fail;refine(cQ hl hn hb J10.out.rs).mono ?_;rintro e v11 ⟨x,hx,rfl,r11,s11⟩;have J11:=hid (J10.out.sx r11 s11);have N11:=hid (N10.out.sx r11 s11);clear J10 N10 r11 s11;obtain⟨d,hd⟩:∃d:Nat,d=x%4:=⟨_,rfl⟩;have ed:(x:Int)%4=(d:Int):=by omega
  clear hd;have wE:IntKind.i64.wrap ((E:Int)+1)=((E+1:Nat):Int):=by rw[IntKind.wrap_i64];omega
  have l10:(D (M2*10)).length<=1802+1:=cC _ _ _ _ hM8 (aE 10 4 1 (by omega) (by omega));have l1:(D 1).length<=1:=aE 1 1 1 (by omega) (by omega);have hten:10<=M2*10:=by omega
  go_upto_block 2 with fail
  go_cut[9,12,93] (fun ev tv _ wx=>∃(E2 m2:Nat)(qa:Option Addr)(qc:Nat),ev=.int .i64 (E2:Int)/\tv=.slice qa m2 qc/\E2<=400/\m2<=90000/\Nt w0 wx ao n c qa m2 qc)
  case first=>
   as_aux_lemma=>
   by_cases d1:d=1
   . subst d1;go_wp2_with fail;refine(fE ma _ mc 10 M2 _ rfl (by omega) (by omega) (J11.out.rd (ma,M2) (by simp))).mono ?_;rintro e u1 ⟨pa,pc,rfl,o,hb1⟩;have J12:=hid (J11.out.own o hb1);clear o hb1;generalize M2*10=MT at*;go_wp2_with fail;refine(aU 1 _ (by omega)).mono ?_;rintro e u2 ⟨oa,oc,rfl,o,hb2⟩;have J13:=hid (J12.out.own o hb2);clear o hb2 J12;go_wp2_with fail;refine(cJ pa oa _ _ pc oc MT 1 _ rfl rfl (by omega) (by omega) (J13.out.rd (pa,MT) (by simp)) (J13.out.rd (oa,1) (by simp))).mono ?_;rintro e u3 ⟨sa,sc,rfl,o,hb3⟩;have J14:=hid (J13.out.own o hb3);have ls:(D (MT+1)).length<=1805:=Nat.le_trans (mM MT 1 1803 l10 (by omega)) (by omega);have hs1:MT+1≠0:=by omega
     clear o hb3 J13;generalize MT+1=MS at*;go_wp2_with fail;refine(fS sa _ sc MS _ rfl (by omega) (J14.out.rd (sa,MS) (by simp))).mono ?_;rintro e u4 ⟨_,hY⟩;obtain⟨ta,tc,rfl,town,hb9⟩:=hY hs1;have tl9:=pG MS 1805 ls
     have t256:∀y∈M.txt MS++[101],y<256:=fun y hy=>(List.mem_append.1 hy).elim (M.oJ MS y) (fun k=>by simp at k;omega)
     have T9:Tx u3.heap.size u3 u4 ta (M.txt MS).length tc (M.txt MS):=⟨rfl,town,hb9,hb9.size⟩;clear town hb9 hY;obtain⟨m3,hm3⟩:∃m,m=(M.txt MS).length:=⟨_,rfl⟩;rw[<-hm3]at tl9 T9|-;have HM:=hid hm3;have H256:=hid t256;clear hm3 t256
     go_wp2_with (at_builtin;refine T9.one _ 101 rfl (by omega) rfl _ _ rfl rfl rfl (by omega) ?_)
     intro ra3 rc3 u5 T10;obtain⟨j10,n10⟩:=wM J14.out (Below.refl _ _) T10 H256.out (by omega);have N5:=hid n10;clear j10 n10 T9 T10 HM H256 J14;go_wp2_with fail;go_meet
     case rel=>exact⟨E+1,m3+1,ra3,rc3,rfl,rfl,by omega,by omega,N5.out⟩
   have g1:((d:Int)==1)=false:=by simp;omega
   by_cases d2:d=2
   . subst d2;go_wp2_with fail;refine(fE ma _ mc 10 M2 _ rfl (by omega) (by omega) (J11.out.rd (ma,M2) (by simp))).mono ?_;rintro e u1 ⟨pa,pc,rfl,o,hb1⟩;have J12:=hid (J11.out.own o hb1);clear o hb1;generalize M2*10=MT at*;go_wp2_with fail;refine(aU 1 _ (by omega)).mono ?_;rintro e u2 ⟨oa,oc,rfl,o,hb2⟩;have J13:=hid (J12.out.own o hb2);clear o hb2 J12;go_wp2_with fail;refine(gU pa oa _ _ pc oc MT 1 _ rfl rfl (by omega) (by omega) (J13.out.rd (pa,MT) (by simp)) (J13.out.rd (oa,1) (by simp))).mono ?_;rintro e u3 ⟨sa,sc,rfl,o,hb3⟩;have J14:=hid (J13.out.own o hb3);have ls:(D (MT-1)).length<=1805:=Nat.le_trans (M.len_of_lt (B:=4294967296) (by omega) _ _ (Nat.lt_of_le_of_lt (Nat.sub_le _ _) (mZ MT 1803 l10))) (by omega);have hs1:MT-1≠0:=by omega
     clear o hb3 J13;generalize MT-1=MS at*;go_wp2_with fail;refine(fS sa _ sc MS _ rfl (by omega) (J14.out.rd (sa,MS) (by simp))).mono ?_;rintro e u4 ⟨_,hY⟩;obtain⟨ta,tc,rfl,town,hb9⟩:=hY hs1;have tl9:=pG MS 1805 ls
     have t256:∀y∈M.txt MS++[101],y<256:=fun y hy=>(List.mem_append.1 hy).elim (M.oJ MS y) (fun k=>by simp at k;omega)
     have T9:Tx u3.heap.size u3 u4 ta (M.txt MS).length tc (M.txt MS):=⟨rfl,town,hb9,hb9.size⟩;clear town hb9 hY;obtain⟨m3,hm3⟩:∃m,m=(M.txt MS).length:=⟨_,rfl⟩;rw[<-hm3]at tl9 T9|-;have HM:=hid hm3;have H256:=hid t256;clear hm3 t256
     go_wp2_with (at_builtin;refine T9.one _ 101 rfl (by omega) rfl _ _ rfl rfl rfl (by omega) ?_)
     intro ra3 rc3 u5 T10;obtain⟨j10,n10⟩:=wM J14.out (Below.refl _ _) T10 H256.out (by omega);have N5:=hid n10;clear j10 n10 T9 T10 HM H256 J14;go_wp2_with fail;go_meet
     case rel=>exact⟨E+1,m3+1,ra3,rc3,rfl,rfl,by omega,by omega,N5.out⟩
   have g2:((d:Int)==2)=false:=by simp;omega
   go_wp2_with fail;go_meet
   case rel=>exact⟨E,m+1,ra,rc,rfl,rfl,by omega,by omega,N11.out⟩
  case rest=>
  as_aux_lemma=>
  rename World=>v12
  clear J11 N11;obtain⟨E2,m2,qa,qc,rfl,rfl,hE2b,hm2,n12⟩:=hcut;have N12:=hid n12;clear n12;have wn:IntKind.i64.wrap (-(E2:Int))= -(E2:Int):=by rw[IntKind.wrap_i64];omega
  go_wp2_with fail;refine(pW (-(E2:Int)) (by omega) _).mono ?_;rintro e vE ⟨ia,ic,rfl,rI,hic,hbI⟩;have NE:=N12.out.keep hbI;have rB:RdB vE ia (M.gQ (-(E2:Int))):=⟨M.jX _,rI⟩;have hle:=M.eint_len8 (-(E2:Int)) (by omega);have hps:=M.oT (-(E2:Int));obtain⟨ib,io,rfl,_⟩:=rI hps;clear N12 hbI
  go_wp2_with (at_builtin;refine NE.app rfl _ _ rfl rfl ⟨ib,io,none⟩ _ ic (M.gQ (-(E2:Int))) rfl rfl hps rB (by omega) ?_)
  intro g9 rc9 vF NF;have HF:=hid NF;clear NF;go_wp2_with fail;go_ret;exact⟨_,_,_,rfl,by omega,HF.out⟩

end Go.Proofs.YtfdgkleoaehjaaaGreatDoor
