import Derived.Test.YtfdgkleoaehjaaaGreatDoorfGAE
set_option maxHeartbeats 16000000
set_option maxRecDepth 100000
namespace Go.Proofs.YtfdgkleoaehjaaaGreatDoor
open Go.RowKit
set_option linter.unusedVariables false
set_option maxRecDepth 100000

theorem JI (P P1 Wd A1:Nat)(f f' e1 e2 e4 qm Em:Int)(x5:Bool){w0 v:World}{ao:Option Addr}{n c:Nat}{bs:List Nat}(hl:bs.length=n)(hn:n<=1048576)(hb:RdB w0 ao bs)(h:Rs w0 v ao n c)
 (hP1:P=P1+1)(hPa:23<=P1)(hPb:P1<=112)(hA1:A1+P=129)(hWd:Wd<=128)(hqm:qm=e1-P+1)(hEm:Em=e2-e1+1)(he1:-17000<=e1)(he1':e1<=0)(he2:0<=e2)(he2':e2<=17000)
 (g0 g1 g2 g3 g4:Int)(g5:Bool)(kE:∀u:World,Calls Tryz.prog 9 #[.int .i64 f] u fun e u'=>e=.returned (.agg #[.int .i64 g0,.int .i64 g1,.int .i64 g2,.int .i64 g3,.int .i64 g4,.bool g5])/\Below u.heap.size u u')
 (hg:(g0=(P:Int)/\g1=e1/\g2=e2/\g3=(Wd:Int)/\g4=e4/\g5=x5/\f'=f)\/(g0=0/\(∀u:World,Calls Tryz.prog 9 #[.int .i64 1] u fun e u'=>e=.returned (.agg #[.int .i64 (P:Int),.int .i64 e1,.int .i64 e2,.int .i64 (Wd:Int),.int .i64 e4,.bool x5])/\Below u.heap.size u u')/\f'=1))
 (kP:∀(cl:Int)(ng:Bool)(s:Nat)(q:Int)(u:World),s<2^128-> -1000000<=q->q<=1000000->Calls Tryz.prog 25 #[.int .i64 f',.agg #[.int .i64 cl,.bool ng,.int .u64 (M.hiN s:Int),.int .u64 (M.loN s:Int),.int .i64 q]] u fun e u'=>∃(Y:Nat)(ok:Bool),Y<2^128/\e=.returned (.tuple #[.agg #[.int .u64 (M.hiN Y:Int),.int .u64 (M.loN Y:Int)],.bool ok])/\Below u.heap.size u u'):
 Calls Tryz.prog 88 #[.pointer (some ⟨w0.heap.size,0,none⟩),.int .i64 f] v fun e v'=>∃X:Nat,X<2^128/\e=.returned (.agg #[.int .u64 (M.hiN X:Int),.int .u64 (M.loN X:Int)])/\Rs w0 v' ao n c:=by
 have wq1:IntKind.i64.wrap (e1-(P:Int))=e1-(P:Int):=by rw[IntKind.wrap_i64];omega
 have wq2:IntKind.i64.wrap (e1-(P:Int)+1)=qm:=by rw[IntKind.wrap_i64];omega
 have qb1:-18000<=qm:=by omega
 have qb2:qm<=0:=by omega
 have HP1:=hid hP1;have HQM:=hid hqm;have HEM:=hid hEm;have HA1:=hid hA1;clear hP1 hqm hEm hA1;go_enter Tryz.func88,Tryz.ntmps88;go_upto_region 1 with fail;obtain⟨bR,hbR⟩:∃bR,bR=v.heap.size:=⟨_,rfl⟩;have r0:Cls (v.alloc (.cells #[.int .u64 0,.int .u64 0] 27)) bR #[.int .u64 0,.int .u64 0] 27:=by rw[hbR];exact Cls.new _ _ _
 have hs0:w0.heap.size<bR:=by rw[hbR];exact h.lt
 rw[<-hbR];have h0:=h.alloc (.cells #[.int .u64 0,.int .u64 0] 27);have hz0:bR<(v.alloc (.cells #[.int .u64 0,.int .u64 0] 27)).heap.size:=by rw[hbR];simp
 generalize v.alloc (.cells #[.int .u64 0,.int .u64 0] 27)=v0 at h0 r0 hz0|-;clear hbR h;go_wp2_with fail;refine(kE _).mono ?_;rintro e v1 ⟨rfl,hb1⟩;have h1:=h0.keep hb1;have r1:=r0.below hb1;have hz1:=hb1.size;clear h0 r0 hb1 kE;have HG:=hid hg;clear hg;obtain⟨bD,hbD⟩:∃bD,bD=v1.heap.size:=⟨_,rfl⟩;have d2:Cls (v1.alloc (.cells #[.int .i64 g0,.int .i64 g1,.int .i64 g2,.int .i64 g3,.int .i64 g4,.bool g5] 37)) bD #[.int .i64 g0,.int .i64 g1,.int .i64 g2,.int .i64 g3,.int .i64 g4,.bool g5] 37:=by rw[hbD];exact Cls.new _ _ _
 have h2:=h1.alloc (.cells #[.int .i64 g0,.int .i64 g1,.int .i64 g2,.int .i64 g3,.int .i64 g4,.bool g5] 37);have r2:=r1.below (al0 v1 (.cells #[.int .i64 g0,.int .i64 g1,.int .i64 g2,.int .i64 g3,.int .i64 g4,.bool g5] 37));have hz2:bR<bD:=by omega
 go_upto_if 18 with fail;rw[<-hbD];generalize v1.alloc (.cells #[.int .i64 g0,.int .i64 g1,.int .i64 g2,.int .i64 g3,.int .i64 g4,.bool g5] 37)=v2 at*;clear h1 r1 hz1 hz0 hbD
 go_cut[1] (fun z wx=>z=.int .i64 f'/\Cls wx bD #[.int .i64 (P:Int),.int .i64 e1,.int .i64 e2,.int .i64 (Wd:Int),.int .i64 e4,.bool x5] 37/\Cls wx bR #[.int .u64 0,.int .u64 0] 27/\Rs w0 wx ao n c)
 case first=>
  have hg:=HG.out;clear HG;rcases hg with⟨rfl,rfl,rfl,rfl,rfl,rfl,hf⟩|⟨rfl,k1,hf⟩
  . have hp0:¬(P:Int)=0:=by have:=HP1.out;omega
    have HF:=hid hf;clear hf;go_wp2_with fail;go_meet
    case rel=>exact⟨by rw[HF.out],d2,r2,h2⟩
  . have HF:=hid hf;clear hf;go_wp2_with fail;refine(k1 _).mono ?_;rintro e u1 ⟨rfl,hb1⟩;have d3:=d2.below hb1;have r3:=r2.below hb1;have h3:=h2.keep hb1;have a0:=d3.cell 0 rfl;have a1:=d3.cell 1 rfl;have a2:=d3.cell 2 rfl;have a3:=d3.cell 3 rfl;have a4:=d3.cell 4 rfl;have a5:=d3.cell 5 rfl;have b0:=d3.frozen 0;have b1:=d3.frozen 1;have b2:=d3.frozen 2;have b3:=d3.frozen 3;have b4:=d3.frozen 4;have b5:=d3.frozen 5;have D9:=hid ((((((d3.set 0 (.int .i64 (P:Int)) _ rfl).set 1 (.int .i64 e1) _ rfl).set 2 (.int .i64 e2) _ rfl).set 3 (.int .i64 (Wd:Int)) _ rfl).set 4 (.int .i64 e4) _ rfl).set 5 (.bool x5) #[.int .i64 (P:Int),.int .i64 e1,.int .i64 e2,.int .i64 (Wd:Int),.int .i64 e4,.bool x5] rfl);have H9:=hid ((((((h3.set bD 0 (.int .i64 (P:Int)) (by omega)).set bD 1 (.int .i64 e1) (by omega)).set bD 2 (.int .i64 e2) (by omega)).set bD 3 (.int .i64 (Wd:Int)) (by omega)).set bD 4 (.int .i64 e4) (by omega)).set bD 5 (.bool x5) (by omega));have R9:=hid ((((((r3.far ⟨bD,0,none⟩ (by simp only;omega) (.int .i64 (P:Int))).far ⟨bD,1,none⟩ (by simp only;omega) (.int .i64 e1)).far ⟨bD,2,none⟩ (by simp only;omega) (.int .i64 e2)).far ⟨bD,3,none⟩ (by simp only;omega) (.int .i64 (Wd:Int))).far ⟨bD,4,none⟩ (by simp only;omega) (.int .i64 e4)).far ⟨bD,5,none⟩ (by simp only;omega) (.bool x5));clear d2 r2 h2 d3 r3 h3 hb1;go_wp2_with fail;go_meet
    case rel=>exact⟨by rw[HF.out],D9.out,R9.out,H9.out⟩
 case rest=>
 clear d2 r2 h2 HG;obtain⟨rfl,d2,r2,h2⟩:=hcut
 rename World=>v2
 go_wp2_with fail;refine(cQ hl hn hb h2).mono ?_;rintro e v3 ⟨k,hk,rfl,h3,x3⟩;have d3:=x3.cls d2 (by omega);have r3:=x3.cls r2 (by omega);clear h2 d2 r2 x3;go_wp2_with fail;refine(cQ hl hn hb h3).mono ?_;rintro e v4 ⟨y,hy,rfl,h4,x4⟩;have d4:=x4.cls d3 (by omega);have r4:=x4.cls r3 (by omega);clear h3 d3 r3 x4;obtain⟨neg,hneg⟩:∃neg:Bool,((y:Int)%3==1)=neg:=⟨_,rfl⟩;have y3:(y:Int).tmod 3=(y:Int)%3:=Int.tmod_eq_emod_of_nonneg (by omega);have d5:Cls (v4.alloc (.cells #[.int .i64 0,.bool neg,.int .u64 0,.int .u64 0,.int .i64 0] 67)) bD #[.int .i64 (P:Int),.int .i64 e1,.int .i64 e2,.int .i64 (Wd:Int),.int .i64 e4,.bool x5] 37:=d4.below ((Below.refl _ _).alloc (Nat.le_refl _) _);have c50:=d5.cell 0 rfl;have c51:=d5.cell 1 rfl;have D4:=hid d4;have R4:=hid r4;have H4:=hid h4;clear d4 r4 h4;obtain⟨m,hm⟩:∃m:Nat,m=k%12:=⟨_,rfl⟩;have hmI:(k:Int).tmod 12=(m:Int):=by rw[Int.tmod_eq_emod_of_nonneg (by omega)];omega
 have hm12:m<12:=by omega
 clear hm;go_upto_block 0 with fail;obtain⟨bP,hbP⟩:∃bP,bP=v4.heap.size:=⟨_,rfl⟩;have p5:Cls (v4.alloc (.cells #[.int .i64 0,.bool neg,.int .u64 0,.int .u64 0,.int .i64 0] 67)) bP #[.int .i64 0,.bool neg,.int .u64 0,.int .u64 0,.int .i64 0] 67:=by rw[hbP];exact Cls.new _ _ _
 have h5:=H4.out.alloc (.cells #[.int .i64 0,.bool neg,.int .u64 0,.int .u64 0,.int .i64 0] 67);have r5:=R4.out.below (al0 v4 (.cells #[.int .i64 0,.bool neg,.int .u64 0,.int .u64 0,.int .i64 0] 67));have hzP:bD<bP:=by rw[hbP];exact D4.out.lt
 rw[<-hbP];generalize v4.alloc (.cells #[.int .i64 0,.bool neg,.int .u64 0,.int .u64 0,.int .i64 0] 67)=v5 at*;clear hbP c50 c51 D4 R4 H4 hmI y3 hneg;have hP1n:¬(P1:Int)=0:=by omega
 have hP1m:¬P1=0:=by omega
 go_cut[] (fun wc=>∃(cl:Int)(ng:Bool)(s:Nat)(q:Int),s<2^128/\ -1000000<=q/\q<=1000000/\Rs w0 wc ao n c/\Cls wc bR #[.int .u64 0,.int .u64 0] 27/\Cls wc bP #[.int .i64 cl,.bool ng,.int .u64 (M.hiN s:Int),.int .u64 (M.loN s:Int),.int .i64 q] 67)
 case first=>
  have B5:Bx w0 v5 ao n c bR bD bP #[.int .i64 (P:Int),.int .i64 e1,.int .i64 e2,.int .i64 (Wd:Int),.int .i64 e4,.bool x5] #[.int .i64 0,.bool neg,.int .u64 0,.int .u64 0,.int .i64 0]:=⟨h5,r5,d5,p5,hs0,hz2,hzP⟩;have f0:=p5.frozen 0;have f4:=p5.frozen 4;have e0:=p5.cell 0 (x:=.int .i64 0) rfl;have ee4:=p5.cell 4 (x:=.int .i64 0) rfl;rcases(show m=0\/m=1\/m=2\/m=3\/m=4\/m=5\/6<=m by omega)with rfl|rfl|rfl|rfl|rfl|rfl|h6
  . as_aux_lemma=>
     go_wp2_with fail;go_meet
     case rel=>exact⟨1,neg,0,0,by omega,by omega,by omega,h5.set bP 0 _ (by omega),r5.far _ (by simp only;omega) _,p5.set 0 _ _ rfl⟩
  . as_aux_lemma=>
     go_wp2_with fail;go_meet
     case rel=>exact⟨4,neg,0,0,by omega,by omega,by omega,h5.set bP 0 _ (by omega),r5.far _ (by simp only;omega) _,p5.set 0 _ _ rfl⟩
  . as_aux_lemma=>
     have ee1:=p5.cell 1 (x:=.bool neg) rfl;have ee2:=p5.cell 2 (x:=.int .u64 0) rfl;have ee3:=p5.cell 3 (x:=.int .u64 0) rfl;have f1:=p5.frozen 1;have f2:=p5.frozen 2;have f3:=p5.frozen 3;go_wp2_with fail;go_meet
     case rel=>exact⟨5,false,0,0,by omega,by omega,by omega,((((h5.set bP 0 _ (by omega)).set bP 1 _ (by omega)).set bP 2 _ (by omega)).set bP 3 _ (by omega)).set bP 4 _ (by omega),((((r5.far _ (by simp only;omega) _).far _ (by simp only;omega) _).far _ (by simp only;omega) _).far _ (by simp only;omega) _).far _ (by simp only;omega) _,((((p5.set 0 _ _ rfl).set 1 _ _ rfl).set 2 _ _ rfl).set 3 _ _ rfl).set 4 _ _ rfl⟩
  . as_aux_lemma=>
     have B6:Bx w0 ((v5.setCell ⟨bP,0,none⟩ (.int .i64 2)).setCell ⟨bP,4,none⟩ (.int .i64 qm)) ao n c bR bD bP #[.int .i64 (P:Int),.int .i64 e1,.int .i64 e2,.int .i64 (Wd:Int),.int .i64 e4,.bool x5] #[.int .i64 2,.bool neg,.int .u64 0,.int .u64 0,.int .i64 qm]:=(B5.setP 0 (.int .i64 2) _ rfl).setP 4 (.int .i64 qm) _ rfl;have B6h:=hid B6;clear B6;go_wp2_with fail;have B6:=B6h.out;generalize(v5.setCell ⟨bP,0,none⟩ (.int .i64 2)).setCell ⟨bP,4,none⟩ (.int .i64 qm)=v6 at B6|-;clear B6h B5 h5 r5 d5 p5 e0 ee4 f0 f4;have B0:=B6.drew
     have KB:∀u,Bx w0 u ao n c bR bD bP #[.int .i64 (P:Int),.int .i64 e1,.int .i64 e2,.int .i64 (Wd:Int),.int .i64 e4,.bool x5] #[.int .i64 2,.bool neg,.int .u64 0,.int .u64 0,.int .i64 qm]->(fun u=>u.cell? ⟨bD,0,none⟩=some (.int .i64 (P:Int))) u:=fun u hu=>hu.d.cell 0 rfl
     have KS:∀u (a b:Value),Bx w0 u ao n c bR bD bP #[.int .i64 (P:Int),.int .i64 e1,.int .i64 e2,.int .i64 (Wd:Int),.int .i64 e4,.bool x5] #[.int .i64 2,.bool neg,.int .u64 0,.int .u64 0,.int .i64 qm]->(fun u=>u.cell? ⟨bD,0,none⟩=some (.int .i64 (P:Int))) ((u.setCell ⟨bP,2,none⟩ a).setCell ⟨bP,3,none⟩ b):=fun u a b hu=>((hu.setP 2 a _ rfl).setP 3 b _ rfl).d.cell 0 rfl
     have hw1:IntKind.i64.wrap ((P:Int)-1)=(P1:Int):=by rw[IntKind.wrap_i64];have:=HP1.out;omega
     have hw2:IntKind.i64.wrap (129-(P:Int))=(A1:Int):=by rw[IntKind.wrap_i64];have:=HA1.out;omega
     go_region_held3 (fun u=>u.cell? ⟨bD,0,none⟩=some (.int .i64 (P:Int))) (first|with_reducible exact KB _ B0|with_reducible exact KB _ B1|with_reducible exact KB _ B2|with_reducible exact KB _ (B2.alloc _)|with_reducible exact KB _ B3|with_reducible exact KB _ B4|with_reducible exact KB _ B7|with_reducible exact KB _ B8|with_reducible exact KS _ _ _ B8) (first
      |(have hq:=B0;clear hq;go_at_call 118;refine(qG hl hn hb B0.rs).mono ?_;rintro e u1 ⟨x1,hx1,rfl,q1,t1⟩;have B1:=B0.sx t1 q1;clear B0 q1 t1)
      |(have hq:=B1;clear hq;go_at_call 118;refine(qG hl hn hb B1.rs).mono ?_;rintro e u2 ⟨x2,hx2,rfl,q2,t2⟩;have B2:=B1.sx t2 q2;clear B1 q2 t2)
      |(have hq:=B2;clear hq;go_at_call 40;refine(inS (w0:=w0) x1 x2 u2 hx1 hx2 B2.rs.lt).mono ?_;rintro e u3 ⟨A,a3,m3,c3,hA,rfl,N3,b3⟩;have B3:=B2.keep b3;clear B2 b3)
      |(have hq:=B3;clear hq;go_at_call 44;refine(cQ hl hn hb B3.rs).mono ?_;rintro e u4 ⟨z,hz,rfl,q4,t4⟩;have B4:=B3.sx t4 q4;have N4:=N3.sx t4;obtain⟨zz,hzz⟩:∃zz:Nat,zz=z%P1:=⟨_,rfl⟩;obtain⟨sh,hsh⟩:∃sh:Nat,sh=A1+zz:=⟨_,rfl⟩;have hzb:zz<=z:=(by rw[hzz];exact Nat.mod_le _ _);have hAb:A1<=129:=(by have:=HA1.out;omega);have hz1:(z:Int).tmod (P1:Int)=(zz:Int):=(by rw[Int.tmod_eq_emod_of_nonneg (by omega),hzz];rfl);have hz3:IntKind.i64.wrap ((A1:Int)+(zz:Int))=(sh:Int):=(by rw[IntKind.wrap_i64];omega);have HSH:Hid (sh=A1+z%P1):=hid (by rw[hsh,hzz]);have hshb:sh<=400:=(by omega);clear hzz hsh hzb hAb;clear B3 N3 q4 t4)
      |(have hq:=B4;clear hq;go_at_call 61;refine(QE (w0:=w0) A (sh:Int) a3 m3 c3 u4 hA (by omega) (by omega) N4 B4.rs.lt).mono ?_;rintro e u7 ⟨G,a7,m7,c7,hG,rfl,N7,b7⟩;have B7:=B4.keep b7;clear B4 N4 b7)
      |(have hq:=B7;clear hq;go_at_call 62;refine(LR (w0:=w0) G a7 m7 c7 u7 hG N7).mono ?_;rintro e u8 ⟨rfl,b8⟩;have B8:=B7.keep b8;have ee2:=B8.p.cell 2 (x:=.int .u64 0) rfl;have ee3:=B8.p.cell 3 (x:=.int .u64 0) rfl;have f2:=B8.p.frozen 2;have f3:=B8.p.frozen 3;clear B7 N7 b8))
     have B9:Bx w0 ((u8.setCell ⟨bP,2,none⟩ (.int .u64 (M.hiN G:Int))).setCell ⟨bP,3,none⟩ (.int .u64 (M.loN G:Int))) ao n c bR bD bP #[.int .i64 (P:Int),.int .i64 e1,.int .i64 e2,.int .i64 (Wd:Int),.int .i64 e4,.bool x5] #[.int .i64 2,.bool neg,.int .u64 (M.hiN G:Int),.int .u64 (M.loN G:Int),.int .i64 qm]:=(B8.setP 2 _ _ rfl).setP 3 _ _ rfl;generalize(u8.setCell ⟨bP,2,none⟩ (.int .u64 (M.hiN G:Int))).setCell ⟨bP,3,none⟩ (.int .u64 (M.loN G:Int))=u9 at B9|-;clear B8 B6;go_wp2_with fail;go_meet
     case rel=>exact⟨2,neg,G,qm,hG,by omega,by omega,B9.rs,B9.r,B9.p⟩
  . as_aux_lemma=>
     go_wp2_with fail;refine(qG hl hn hb B5.rs).mono ?_;rintro e u1 ⟨x1,hx1,rfl,q1,t1⟩;have B1:=B5.sx t1 q1;go_wp2_with fail;refine(qG hl hn hb B1.rs).mono ?_;rintro e u2 ⟨x2,hx2,rfl,q2,t2⟩;have B2:=B1.sx t2 q2;obtain⟨Y,hY,ex1,ex2⟩:=LV x1 x2 hx1 hx2;subst ex1 ex2;have R2:=B2.r;have H2:=B2.rs;clear B1 B5 q1 t1 q2 t2 h5 r5 d5 p5 e0 ee4 f0 f4 B2;have y0:=R2.cell 0 (x:=.int .u64 0) rfl;have y1:=R2.cell 1 (x:=.int .u64 0) rfl;have y2:=R2.frozen 0;have y3:=R2.frozen 1;go_wp2_with fail;have R9:Cls ((u2.setCell ⟨bR,0,none⟩ (.int .u64 (M.hiN Y:Int))).setCell ⟨bR,1,none⟩ (.int .u64 (M.loN Y:Int))) bR #[.int .u64 (M.hiN Y:Int),.int .u64 (M.loN Y:Int)] 27:=(R2.set 0 _ _ rfl).set 1 _ _ rfl;have H9:=(H2.set bR 0 (.int .u64 (M.hiN Y:Int)) hs0).set bR 1 (.int .u64 (M.loN Y:Int)) hs0;generalize(u2.setCell ⟨bR,0,none⟩ (.int .u64 (M.hiN Y:Int))).setCell ⟨bR,1,none⟩ (.int .u64 (M.loN Y:Int))=v9 at R9 H9|-;have z0:=R9.cell 0 (x:=.int .u64 (M.hiN Y:Int)) rfl;have z1:=R9.cell 1 (x:=.int .u64 (M.loN Y:Int)) rfl;exact bodyPost_ret (v:=.agg #[.int .u64 (M.hiN Y:Int),.int .u64 (M.loN Y:Int)]) (by simp[results,Tryz.results88,go_sem,z0,z1]) rfl ⟨Y,by first|assumption|omega,rfl,H9⟩
  . as_aux_lemma=>
     have KB:∀u,Bx w0 u ao n c bR bD bP #[.int .i64 (P:Int),.int .i64 e1,.int .i64 e2,.int .i64 (Wd:Int),.int .i64 e4,.bool x5] #[.int .i64 0,.bool neg,.int .u64 0,.int .u64 0,.int .i64 0]->(fun u=>u.cell? ⟨bD,3,none⟩=some (.int .i64 (Wd:Int))) u:=fun u hu=>hu.d.cell 3 rfl
     have KS:∀u (a b:Value),Bx w0 u ao n c bR bD bP #[.int .i64 (P:Int),.int .i64 e1,.int .i64 e2,.int .i64 (Wd:Int),.int .i64 e4,.bool x5] #[.int .i64 0,.bool neg,.int .u64 0,.int .u64 0,.int .i64 0]->(fun u=>u.cell? ⟨bD,3,none⟩=some (.int .i64 (Wd:Int))) ((u.setCell ⟨bR,0,none⟩ a).setCell ⟨bR,1,none⟩ b):=fun u a b hu=>((hu.d.far _ (by have:=hu.s1;simp only;omega) _).far _ (by have:=hu.s1;simp only;omega) _).cell 3 rfl
     have B0:=B5.drew;clear B5 h5 r5 d5 p5 e0 ee4 f0 f4;go_wp2_with fail
     go_region_held3 (fun u=>u.cell? ⟨bD,3,none⟩=some (.int .i64 (Wd:Int))) (first|with_reducible exact KB _ B0|with_reducible exact KB _ B1|with_reducible exact KB _ B2|with_reducible exact KB _ (B2.alloc _)|with_reducible exact KB _ B3|with_reducible exact KB _ B7|with_reducible exact KB _ B8|with_reducible exact KS _ _ _ B8) (first
      |(have hq:=B0;clear hq;go_at_call 118;refine(qG hl hn hb B0.rs).mono ?_;rintro e u1 ⟨x1,hx1,rfl,q1,t1⟩;have B1:=B0.sx t1 q1;clear B0 q1 t1)
      |(have hq:=B1;clear hq;go_at_call 118;refine(qG hl hn hb B1.rs).mono ?_;rintro e u2 ⟨x2,hx2,rfl,q2,t2⟩;have B2:=B1.sx t2 q2;clear B1 q2 t2)
      |(have hq:=B2;clear hq;go_at_call 40;refine(inS (w0:=w0) x1 x2 u2 hx1 hx2 B2.rs.lt).mono ?_;rintro e u3 ⟨A,a3,m3,c3,hA,rfl,N3,b3⟩;have B3:=B2.keep b3;clear B2 b3)
      |(have hq:=B3;clear hq;go_at_call 66;refine(QL (w0:=w0) A Wd (Wd:Int) rfl a3 m3 c3 u3 hA (by omega) N3 B3.rs.lt).mono ?_;rintro e u7 ⟨G,a7,m7,c7,hG0,rfl,N7,b7⟩;have hG:G<2^128:=Nat.lt_of_lt_of_le hG0 (Nat.pow_le_pow_right (by omega) (by omega));have B7:=B3.keep b7;clear B3 N3 b7 hG0)
      |(have hq:=B7;clear hq;go_at_call 62;refine(LR (w0:=w0) G a7 m7 c7 u7 hG N7).mono ?_;rintro e u8 ⟨rfl,b8⟩;have B8:=B7.keep b8;have ee2:=B8.r.cell 0 (x:=.int .u64 0) rfl;have ee3:=B8.r.cell 1 (x:=.int .u64 0) rfl;have f2:=B8.r.frozen 0;have f3:=B8.r.frozen 1;clear B7 N7 b8))
     have R8:=B8.r;have H8:=B8.rs;clear B8;have R9:Cls ((u8.setCell ⟨bR,0,none⟩ (.int .u64 (M.hiN G:Int))).setCell ⟨bR,1,none⟩ (.int .u64 (M.loN G:Int))) bR #[.int .u64 (M.hiN G:Int),.int .u64 (M.loN G:Int)] 27:=(R8.set 0 _ _ rfl).set 1 _ _ rfl;have H9:=(H8.set bR 0 (.int .u64 (M.hiN G:Int)) hs0).set bR 1 (.int .u64 (M.loN G:Int)) hs0;generalize(u8.setCell ⟨bR,0,none⟩ (.int .u64 (M.hiN G:Int))).setCell ⟨bR,1,none⟩ (.int .u64 (M.loN G:Int))=v9 at R9 H9|-;go_wp2_with fail;have z0:=R9.cell 0 (x:=.int .u64 (M.hiN G:Int)) rfl;have z1:=R9.cell 1 (x:=.int .u64 (M.loN G:Int)) rfl;exact bodyPost_ret (v:=.agg #[.int .u64 (M.hiN G:Int),.int .u64 (M.loN G:Int)]) (by simp[results,Tryz.results88,go_sem,z0,z1]) rfl ⟨G,by first|assumption|omega,rfl,H9⟩
  . as_aux_lemma=>
     have hm0:¬(m:Int)=0:=by omega
     have hm1:¬(m:Int)=1:=by omega
     have hm2:¬(m:Int)=2:=by omega
     have hm3:¬(m:Int)=3:=by omega
     have hm4:¬(m:Int)=4:=by omega
     have hm5:¬(m:Int)=5:=by omega
     have hw1:IntKind.i64.wrap ((P:Int)-1)=(P1:Int):=by rw[IntKind.wrap_i64];have:=HP1.out;omega
     have B6:Bx w0 (v5.setCell ⟨bP,0,none⟩ (.int .i64 3)) ao n c bR bD bP #[.int .i64 (P:Int),.int .i64 e1,.int .i64 e2,.int .i64 (Wd:Int),.int .i64 e4,.bool x5] #[.int .i64 3,.bool neg,.int .u64 0,.int .u64 0,.int .i64 0]:=B5.setP 0 _ _ rfl;have c0:=B5.d.cell 0 (x:=.int .i64 (P:Int)) rfl;have B6h:=hid B6;clear B6;go_wp2_with fail;have B6:=B6h.out;generalize v5.setCell ⟨bP,0,none⟩ (.int .i64 3)=v6 at B6|-;clear B6h B5 h5 r5 d5 p5 e0 ee4 f0 f4 c0 hm0 hm1 hm2 hm3 hm4 hm5;refine(QR (w0:=w0) P1 (P1:Int) rfl v6 (by omega) B6.rs.lt).mono ?_;rintro e u7 ⟨a7,m7,c7,rfl,N7,b7⟩;have B7:=B6.keep b7;clear B6 b7;go_wp2_with fail;refine(cQ hl hn hb B7.rs).mono ?_;rintro e u8 ⟨z,hz,rfl,q8,t8⟩;have B8:=B7.sx t8 q8;have N8:=N7.sx t8;clear B7 N7 q8 t8;obtain⟨j,hj⟩:∃j:Nat,j=z%5:=⟨_,rfl⟩;have hjI:(z:Int).tmod 5=(j:Int):=by rw[Int.tmod_eq_emod_of_nonneg (by omega)];omega
     have hj5:j<5:=by omega
     clear hj;have pw:2^P1<2^127:=Nat.pow_lt_pow_right (by omega) (by omega);have pw2:2^P<2^127:=Nat.pow_lt_pow_right (by omega) (by have:=HP1.out;omega);have pw3:2^2<=2^P:=Nat.pow_le_pow_right (by omega) (by have:=HP1.out;omega);have hPle:P<=128:=by have:=HP1.out;omega
     go_upto_block 1 with fail;clear hjI
     go_cut[10] (fun sg wc=>∃(G:Nat)(a:Option Addr)(m' c':Nat),G<2^128/\sg=.slice a m' c'/\Nw w0 wc a m' c' G/\Bx w0 wc ao n c bR bD bP #[.int .i64 (P:Int),.int .i64 e1,.int .i64 e2,.int .i64 (Wd:Int),.int .i64 e4,.bool x5] #[.int .i64 3,.bool neg,.int .u64 0,.int .u64 0,.int .i64 0])
     case first=>
      rcases(show j=0\/j=1\/j=2\/3<=j by omega)with rfl|rfl|rfl|hj3
      . as_aux_lemma=>
         go_wp2_with fail;go_meet
         case rel=>exact⟨2^P1,a7,m7,c7,by omega,rfl,N8,B8⟩
      . as_aux_lemma=>
         have c0:=B8.d.cell 0 (x:=.int .i64 (P:Int)) rfl;go_wp2_with fail;refine(QR (w0:=w0) P (P:Int) rfl u8 hPle B8.rs.lt).mono ?_;rintro e u9 ⟨a9,m9,c9,rfl,N9,b9⟩;have B9:=B8.keep b9;clear B8 b9 N8 c0;go_wp2_with fail;refine(cQ hl hn hb B9.rs).mono ?_;rintro e u10 ⟨y2,hy2,rfl,q10,t10⟩;have B10:=B9.sx t10 q10;have N10:=N9.sx t10;clear B9 N9 q10 t10;have g1:(y2:Int).tmod 3=(y2:Int)%3:=Int.tmod_eq_emod_of_nonneg (by omega);go_wp2_with fail;refine(ofS (w0:=w0) (1+(y2:Int)%3) u10 (by omega) (by omega) B10.rs.lt).mono ?_;rintro e u11 ⟨G,a11,m11,c11,hG,rfl,N11,b11⟩;have B11:=B10.keep b11;have N12:=N10.keep b11;clear B10 N10 b11;go_wp2_with fail;refine(RN (w0:=w0) (2^P) G a9 a11 m9 m11 c9 c11 u11 (by omega) (Nat.le_trans (show G<=2^2 by omega) pw3) N12 N11 B11.rs.lt).mono ?_;rintro e u13 ⟨a13,m13,c13,rfl,N13,b13⟩;have B13:=B11.keep b13;clear B11 N11 N12 b13;go_wp2_with fail;go_meet
         case rel=>exact⟨2^P-G,a13,m13,c13,by omega,rfl,N13,B13⟩
      . as_aux_lemma=>
         go_wp2_with fail;refine(cQ hl hn hb B8.rs).mono ?_;rintro e u10 ⟨y2,hy2,rfl,q10,t10⟩;have B10:=B8.sx t10 q10;have N10:=N8.sx t10;clear B8 N8 q10 t10;have g1:(y2:Int).tmod 4=(y2:Int)%4:=Int.tmod_eq_emod_of_nonneg (by omega);go_wp2_with fail;refine(ofS (w0:=w0) ((y2:Int)%4) u10 (by omega) (by omega) B10.rs.lt).mono ?_;rintro e u11 ⟨G,a11,m11,c11,hG,rfl,N11,b11⟩;have B11:=B10.keep b11;have N12:=N10.keep b11;clear B10 N10 b11;go_wp2_with fail;refine(RI (w0:=w0) (2^P1) G a7 a11 m7 m11 c7 c11 u11 (by omega) (by omega) N12 N11 B11.rs.lt).mono ?_;rintro e u13 ⟨a13,m13,c13,rfl,N13,b13⟩;have B13:=B11.keep b13;clear B11 N11 N12 b13;go_wp2_with fail;go_meet
         case rel=>exact⟨2^P1+G,a13,m13,c13,by omega,rfl,N13,B13⟩
      . as_aux_lemma=>
         have hj0:¬(j:Int)=0:=by omega
         have hj1:¬(j:Int)=1:=by omega
         have hj2:¬(j:Int)=2:=by omega
         have KB:∀u,Bx w0 u ao n c bR bD bP #[.int .i64 (P:Int),.int .i64 e1,.int .i64 e2,.int .i64 (Wd:Int),.int .i64 e4,.bool x5] #[.int .i64 3,.bool neg,.int .u64 0,.int .u64 0,.int .i64 0]->(fun u=>u.cell? ⟨bD,0,none⟩=some (.int .i64 (P:Int))) u:=fun u hu=>hu.d.cell 0 rfl
         have B0:=B8.drew;have N0:=N8.drew;clear B8 N8;go_wp2_with fail
         go_region_held3 (fun u=>u.cell? ⟨bD,0,none⟩=some (.int .i64 (P:Int))) (first|with_reducible exact KB _ B0|with_reducible exact KB _ B1|with_reducible exact KB _ B2|with_reducible exact KB _ (B2.alloc _)|with_reducible exact KB _ B3|with_reducible exact KB _ B7|with_reducible exact KB _ B8) (first
          |(have hq:=B0;clear hq;go_at_call 118;refine(qG hl hn hb B0.rs).mono ?_;rintro e u1 ⟨x1,hx1,rfl,q1,t1⟩;have B1:=B0.sx t1 q1;have N1:=N0.sx t1;clear B0 N0 q1 t1)
          |(have hq:=B1;clear hq;go_at_call 118;refine(qG hl hn hb B1.rs).mono ?_;rintro e u2 ⟨x2,hx2,rfl,q2,t2⟩;have B2:=B1.sx t2 q2;have N2:=N1.sx t2;clear B1 N1 q2 t2)
          |(have hq:=B2;clear hq;go_at_call 40;refine(inS (w0:=w0) x1 x2 u2 hx1 hx2 B2.rs.lt).mono ?_;rintro e u3 ⟨A,a3,m3,c3,hA,rfl,N3,b3⟩;have B3:=B2.keep b3;have O3:=N2.keep b3;clear B2 N2 b3)
          |(have hq:=B3;clear hq;go_at_call 66;refine(QL (w0:=w0) A P1 (P1:Int) rfl a3 m3 c3 u3 hA (by omega) N3 B3.rs.lt).mono ?_;rintro e u5 ⟨G,a5,m5,c5,hG,rfl,N5,b5⟩;have B7:=B3.keep b5;have O7:=O3.keep b5;clear B3 N3 O3 b5)
          |(have hq:=B7;clear hq;go_at_call 53;refine(RI (w0:=w0) (2^P1) G a7 a5 m7 m5 c7 c5 u5 (by omega) (by omega) O7 N5 B7.rs.lt).mono ?_;rintro e u6 ⟨a6,m6,c6,rfl,N6,b6⟩;have B8:=B7.keep b6;clear B7 O7 N5 b6))
         go_wp2_with fail;go_meet
         case rel=>exact⟨2^P1+G,a6,m6,c6,by omega,rfl,N6,B8⟩
     case rest=>
      obtain⟨G,a8,m8,c8,hG,rfl,N9,B9⟩:=hcut;go_wp2_with fail;refine(LR (w0:=w0) G a8 m8 c8 wc hG N9).mono ?_;rintro e u10 ⟨rfl,b10⟩;have B10:=B9.keep b10;clear B9 N9 N8 B8 b10;have ee2:=B10.p.cell 2 (x:=.int .u64 0) rfl;have ee3:=B10.p.cell 3 (x:=.int .u64 0) rfl;have f2:=B10.p.frozen 2;have f3:=B10.p.frozen 3;have B11:Bx w0 ((u10.setCell ⟨bP,2,none⟩ (.int .u64 (M.hiN G:Int))).setCell ⟨bP,3,none⟩ (.int .u64 (M.loN G:Int))) ao n c bR bD bP #[.int .i64 (P:Int),.int .i64 e1,.int .i64 e2,.int .i64 (Wd:Int),.int .i64 e4,.bool x5] #[.int .i64 3,.bool neg,.int .u64 (M.hiN G:Int),.int .u64 (M.loN G:Int),.int .i64 0]:=(B10.setP 2 _ _ rfl).setP 3 _ _ rfl;have B11h:=hid B11;clear B11;go_wp2_with fail;have B11:=B11h.out;generalize(u10.setCell ⟨bP,2,none⟩ (.int .u64 (M.hiN G:Int))).setCell ⟨bP,3,none⟩ (.int .u64 (M.loN G:Int))=u11 at B11|-;clear B11h B10 ee2 ee3 f2 f3;refine(cQ hl hn hb B11.rs).mono ?_;rintro e u12 ⟨y1,hy1,rfl,q12,t12⟩;have B12:=B11.sx t12 q12;clear B11 q12 t12;go_wp2_with fail;refine(cQ hl hn hb B12.rs).mono ?_;rintro e u13 ⟨y2,hy2,rfl,q13,t13⟩;have B13:=B12.sx t13 q13;clear B12 q13 t13;obtain⟨ee,hee⟩:∃ee:Nat,ee=y1*256+y2:=⟨_,rfl⟩;have hew:(y1:Int)*256+(y2:Int)=(ee:Int):=by omega
      have heb:ee<=65535:=by omega
      clear hee;go_wp2_with fail;refine(cQ hl hn hb B13.rs).mono ?_;rintro e u14 ⟨y3,hy3,rfl,q14,t14⟩;have B14:=B13.sx t14 q14;clear B13 q14 t14 hew;obtain⟨r,hr⟩:∃r:Nat,r=y3%4:=⟨_,rfl⟩;have hiI:(y3:Int).tmod 4=(r:Int):=by rw[Int.tmod_eq_emod_of_nonneg (by omega)];omega
      have hi4:r<4:=by omega
      clear hr;go_upto_block 2 with fail;clear hiI;have c0:=B14.d.cell 0 (x:=.int .i64 (P:Int)) rfl;have c1:=B14.d.cell 1 (x:=.int .i64 e1) rfl;have c2:=B14.d.cell 2 (x:=.int .i64 e2) rfl;have ee4:=B14.p.cell 4 (x:=.int .i64 0) rfl;have f4:=B14.p.frozen 4;have hPi:(24:Int)<=(P:Int)/\(P:Int)<=113:=by have:=HP1.out;omega
      rcases(show r=0\/r=1\/r=2\/r=3 by omega)with rfl|rfl|rfl|rfl
      . as_aux_lemma=>
         obtain⟨t0,ht0⟩:∃t0:Int,t0=(ee:Int)%120:=⟨_,rfl⟩;have tb:0<=t0/\t0<120:=by omega
         have g1:(ee:Int).tmod 120=t0:=by rw[Int.tmod_eq_emod_of_nonneg (by omega),ht0]
         clear ht0;have w1:IntKind.i64.wrap (t0-60)=t0-60:=by rw[IntKind.wrap_i64];omega
         have w2:IntKind.i64.wrap (t0-60-(P:Int))=t0-60-(P:Int):=by rw[IntKind.wrap_i64];omega
         have w3:IntKind.i64.wrap (t0-60-(P:Int)+1)=t0-60-(P:Int)+1:=by rw[IntKind.wrap_i64];omega
         go_wp2_with fail;go_meet
         case rel=>exact⟨3,neg,G,t0-60-(P:Int)+1,hG,by omega,by omega,B14.rs.set bP 4 _ (by omega),B14.r.far _ (by simp only;omega) _,B14.p.set 4 _ _ rfl⟩
      . as_aux_lemma=>
         obtain⟨t0,ht0⟩:∃t0:Int,t0=(ee:Int)%3:=⟨_,rfl⟩;have tb:0<=t0/\t0<3:=by omega
         have g1:(ee:Int).tmod 3=t0:=by rw[Int.tmod_eq_emod_of_nonneg (by omega),ht0]
         clear ht0;have w1:IntKind.i64.wrap (qm+t0)=qm+t0:=by rw[IntKind.wrap_i64];omega
         go_wp2_with fail;go_meet
         case rel=>exact⟨3,neg,G,qm+t0,hG,by omega,by omega,B14.rs.set bP 4 _ (by omega),B14.r.far _ (by simp only;omega) _,B14.p.set 4 _ _ rfl⟩
      . as_aux_lemma=>
         obtain⟨t0,ht0⟩:∃t0:Int,t0=(ee:Int)%3:=⟨_,rfl⟩;have tb:0<=t0/\t0<3:=by omega
         have g1:(ee:Int).tmod 3=t0:=by rw[Int.tmod_eq_emod_of_nonneg (by omega),ht0]
         clear ht0;have w1:IntKind.i64.wrap (e2-(P:Int))=e2-(P:Int):=by rw[IntKind.wrap_i64];omega
         have w2:IntKind.i64.wrap (e2-(P:Int)+1)=e2-(P:Int)+1:=by rw[IntKind.wrap_i64];omega
         have w3:IntKind.i64.wrap (e2-(P:Int)+1-t0)=e2-(P:Int)+1-t0:=by rw[IntKind.wrap_i64];omega
         go_wp2_with fail;go_meet
         case rel=>exact⟨3,neg,G,e2-(P:Int)+1-t0,hG,by omega,by omega,B14.rs.set bP 4 _ (by omega),B14.r.far _ (by simp only;omega) _,B14.p.set 4 _ _ rfl⟩
      . as_aux_lemma=>
         have hEb:1<=Em/\Em<=40000:=by have:=HEM.out;omega
         obtain⟨t0,ht0⟩:∃t0:Int,t0=(ee:Int)%Em:=⟨_,rfl⟩;have tb:0<=t0/\t0<Em:=by rw[ht0];exact⟨Int.emod_nonneg _ (by omega),Int.emod_lt_of_pos _ (by omega)⟩
         have g1:(ee:Int).tmod Em=t0:=by rw[Int.tmod_eq_emod_of_nonneg (by omega),ht0]
         clear ht0;have hEn:¬Em=0:=by omega
         have w1:IntKind.i64.wrap (e2-e1)=e2-e1:=by rw[IntKind.wrap_i64];omega
         have w2:IntKind.i64.wrap (e2-e1+1)=Em:=by rw[IntKind.wrap_i64,HEM.out];omega
         have w3:IntKind.i64.wrap (qm+t0)=qm+t0:=by rw[IntKind.wrap_i64];omega
         go_wp2_with fail;go_meet
         case rel=>exact⟨3,neg,G,qm+t0,hG,by omega,by omega,B14.rs.set bP 4 _ (by omega),B14.r.far _ (by simp only;omega) _,B14.p.set 4 _ _ rfl⟩
 case rest=>
  obtain⟨cl,ng,s,q,hs,hq1,hq2,h6,r6,p6⟩:=hcut;have cp0:=p6.cell 0 rfl;have cp1:=p6.cell 1 rfl;have cp2:=p6.cell 2 rfl;have cp3:=p6.cell 3 rfl;have cp4:=p6.cell 4 rfl;have k1:=kP cl ng s q wc hs hq1 hq2;go_wp2_with fail;refine k1.mono ?_;rintro e v7 ⟨Y,o,hY,rfl,hb7⟩;have h7:=h6.keep hb7;have r7:=r6.below hb7;clear h6 r6 p6 cp0 cp1 cp2 cp3 cp4 k1 hb7 d5 p5 h5 r5;cases o
  . have r8:=r7.below ((Below.refl _ v7).alloc (Nat.le_refl _) (.cells #[.int .u64 (M.hiN Y:Int),.int .u64 (M.loN Y:Int)] 27));have h8:=h7.alloc (.cells #[.int .u64 (M.hiN Y:Int),.int .u64 (M.loN Y:Int)] 27);have w8:=Cls.new v7 #[.int .u64 (M.hiN Y:Int),.int .u64 (M.loN Y:Int)] 27;have hlt8:=r7.lt;have k7:(k:Int).tmod 7=((k%7:Nat):Int):=by rw[Int.tmod_eq_emod_of_nonneg (by omega)];omega
    have k2:=kP 2 neg (1+k%7) qm (v7.alloc (.cells #[.int .u64 (M.hiN Y:Int),.int .u64 (M.loN Y:Int)] 27)) (by omega) (by omega) (by omega);have x1:M.hiN (1+k%7)=0:=by unfold M.hiN;omega
    have x2:M.loN (1+k%7)=1+k%7:=by unfold M.loN;omega
    rw[x1,x2]at k2;have x3:((1+k%7:Nat):Int)=1+(k:Int)%7:=by omega
    rw[x3]at k2;clear x1 x2 x3;have R8:=hid r8;have H8:=hid h8;have W8:=hid w8;clear r7 h7 r8 h8 w8;go_wp2_with fail;refine k2.mono ?_;rintro e v10 ⟨Z,o2,hZ,rfl,hb10⟩;have r10:=R8.out.below hb10;have h10:=H8.out.keep hb10;have w10:=W8.out.below hb10;have hz10:v7.heap.size<v10.heap.size:=by have:=hb10.size;simp at this;omega
    clear R8 H8 W8 hb10 k2;have q0:=w10.cell 0 (x:=.int .u64 (M.hiN Y:Int)) rfl;have q1:=w10.cell 1 (x:=.int .u64 (M.loN Y:Int)) rfl;have q2:=w10.frozen 0;have q3:=w10.frozen 1;have r11:=(r10.far ⟨v7.heap.size,0,none⟩ (by simp only;omega) (.int .u64 (M.hiN Z:Int))).far ⟨v7.heap.size,1,none⟩ (by simp only;omega) (.int .u64 (M.loN Z:Int));have h11:=(h10.set v7.heap.size 0 (.int .u64 (M.hiN Z:Int)) (by omega)).set v7.heap.size 1 (.int .u64 (M.loN Z:Int)) (by omega);clear r10 h10;have y0:=r11.cell 0 (x:=.int .u64 0) rfl;have y1:=r11.cell 1 (x:=.int .u64 0) rfl;have y2:=r11.frozen 0;have y3:=r11.frozen 1;go_wp2_with fail;have R9:Cls ((((v10.setCell ⟨v7.heap.size,0,none⟩ (.int .u64 (M.hiN Z:Int))).setCell ⟨v7.heap.size,1,none⟩ (.int .u64 (M.loN Z:Int))).setCell ⟨bR,0,none⟩ (.int .u64 (M.hiN Z:Int))).setCell ⟨bR,1,none⟩ (.int .u64 (M.loN Z:Int))) bR #[.int .u64 (M.hiN Z:Int),.int .u64 (M.loN Z:Int)] 27:=(r11.set 0 _ _ rfl).set 1 _ _ rfl;have H9:=(h11.set bR 0 (.int .u64 (M.hiN Z:Int)) hs0).set bR 1 (.int .u64 (M.loN Z:Int)) hs0;generalize(((v10.setCell ⟨v7.heap.size,0,none⟩ (.int .u64 (M.hiN Z:Int))).setCell ⟨v7.heap.size,1,none⟩ (.int .u64 (M.loN Z:Int))).setCell ⟨bR,0,none⟩ (.int .u64 (M.hiN Z:Int))).setCell ⟨bR,1,none⟩ (.int .u64 (M.loN Z:Int))=v9 at R9 H9|-;have z0:=R9.cell 0 (x:=.int .u64 (M.hiN Z:Int)) rfl;have z1:=R9.cell 1 (x:=.int .u64 (M.loN Z:Int)) rfl;exact bodyPost_ret (v:=.agg #[.int .u64 (M.hiN Z:Int),.int .u64 (M.loN Z:Int)]) (by simp[results,Tryz.results88,go_sem,z0,z1]) rfl ⟨Z,by first|assumption|omega,rfl,H9⟩
  . have hlt8:=r7.lt;have y0:=r7.cell 0 (x:=.int .u64 0) rfl;have y1:=r7.cell 1 (x:=.int .u64 0) rfl;have y2:=r7.frozen 0;have y3:=r7.frozen 1;go_wp2_with fail;have R9:Cls (((v7.setCell ⟨bR,0,none⟩ (.int .u64 (M.hiN Y:Int))).setCell ⟨bR,1,none⟩ (.int .u64 (M.loN Y:Int))).alloc (.cells #[.int .u64 (M.hiN Y:Int),.int .u64 (M.loN Y:Int)] 27)) bR #[.int .u64 (M.hiN Y:Int),.int .u64 (M.loN Y:Int)] 27:=((r7.set 0 _ _ rfl).set 1 _ _ rfl).below ((Below.refl _ _).alloc (Nat.le_refl _) _);have H9:=((h7.set bR 0 (.int .u64 (M.hiN Y:Int)) hs0).set bR 1 (.int .u64 (M.loN Y:Int)) hs0).alloc (.cells #[.int .u64 (M.hiN Y:Int),.int .u64 (M.loN Y:Int)] 27);generalize((v7.setCell ⟨bR,0,none⟩ (.int .u64 (M.hiN Y:Int))).setCell ⟨bR,1,none⟩ (.int .u64 (M.loN Y:Int))).alloc (.cells #[.int .u64 (M.hiN Y:Int),.int .u64 (M.loN Y:Int)] 27)=v9 at R9 H9|-;have z0:=R9.cell 0 (x:=.int .u64 (M.hiN Y:Int)) rfl;have z1:=R9.cell 1 (x:=.int .u64 (M.loN Y:Int)) rfl;exact bodyPost_ret (v:=.agg #[.int .u64 (M.hiN Y:Int),.int .u64 (M.loN Y:Int)]) (by simp[results,Tryz.results88,go_sem,z0,z1]) rfl ⟨Y,by first|assumption|omega,rfl,H9⟩

end Go.Proofs.YtfdgkleoaehjaaaGreatDoor
