import Derived.Test.YtfdgkleoaehjaaaGreatDoorfGAQ
set_option maxHeartbeats 4000000
namespace Go.Proofs.YtfdgkleoaehjaaaGreatDoor
open Go.RowKit
set_option linter.unusedVariables false
set_option maxRecDepth 100000

def Wds (w:World):Prop:= 2<w.heap.size/\w.cell? ⟨2,0,none⟩=some (.string ⟨#[105,110,102]⟩)/\w.cell? ⟨2,1,none⟩=some (.int .i64 2)/\
 w.cell? ⟨2,2,none⟩=some (.string ⟨#[105,110,102,105,110,105,116,121]⟩)/\w.cell? ⟨2,3,none⟩=some (.int .i64 2)/\w.cell? ⟨2,4,none⟩=some (.string ⟨#[110,97,110]⟩)/\w.cell? ⟨2,5,none⟩=some (.int .i64 3)

theorem Wds.below {w w':World}(h:Wds w)(hb:Below w.heap.size w w'):Wds w':=by
 obtain⟨h0,h1,h2,h3,h4,h5,h6⟩:=h
 have k:=fun j=>hb.cell (p:=⟨2,j,none⟩) h0
 exact⟨Nat.lt_of_lt_of_le h0 hb.size,(k 0).trans h1,(k 1).trans h2,(k 2).trans h3,(k 3).trans h4,(k 4).trans h5,(k 5).trans h6⟩

theorem xB (s:ByteArray)(b:Nat)(h:b<=s.size):aX (s.extract b s.size)=(aX s).drop b:=by
 unfold aX;rw[ByteArray.data_extract,Array.toList_extract,<-List.map_drop]
 congr 1
 have:s.size=s.data.toList.length:=by rw[Array.length_toList];rfl
 rw[List.extract_eq_take_drop,List.take_of_length_le (by rw[List.length_drop];omega)]

theorem qE (v w:List Nat):(M.aI v w=v.length/\M.aI v w=w.length)↔v.map M.low=w:=by
 have h:=M.cK v w
 constructor
 . rintro⟨h1,h2⟩;have:=h.1;rw[h2,List.take_length]at this;rw[<-this,<-h2,h1,List.take_length]
 . intro e;have hl:v.length=w.length:=by rw[<-e,List.length_map]
   have:=M.pE v w v.length (by rw[List.take_length,hl,List.take_length,e]) (Nat.le_refl _) (by omega);omega

abbrev nwV:Value:=.agg #[.string ⟨#[105,110,102]⟩,.int .i64 2,.string ⟨#[105,110,102,105,110,105,116,121]⟩,.int .i64 2,.string ⟨#[110,97,110]⟩,.int .i64 3]

theorem nw0 (u:World):(Instr.index 189 nwV (.int .i64 0)).run Tryz.prog u=.ok (.agg #[.string ⟨#[105,110,102]⟩,.int .i64 2]) u:=by kernel_rfl

theorem nw1 (u:World):(Instr.index 189 nwV (.int .i64 1)).run Tryz.prog u=.ok (.agg #[.string ⟨#[105,110,102,105,110,105,116,121]⟩,.int .i64 2]) u:=by kernel_rfl

theorem nw2 (u:World):(Instr.index 189 nwV (.int .i64 2)).run Tryz.prog u=.ok (.agg #[.string ⟨#[110,97,110]⟩,.int .i64 3]) u:=by kernel_rfl

theorem mT {W v v':World}{n:Nat}(h:Below n W v)(hb:Below v.heap.size v v')(hn:n<=v.heap.size):Below n W v':=h.trans (hb.mono hn)

theorem wG (s:ByteArray)(b:Nat)(ng:Bool)(w:World)(hs:s.size<=800)(hb:b<s.size)(hW:Wds w)(o:M.Dec⊕Nat)(ho:o=M.dK ((aX s).drop b) b ng):
 Calls Tryz.prog 123 #[.string s,.int .i64 (b:Int),.bool ng] w fun e w'=>NT w w' e o:=by
 obtain⟨h0,h1,h2,h3,h4,h5,h6⟩:=hW;have HO:=hid ho;clear ho;have hvl:((aX s).drop b).length=s.size-b:=by rw[List.length_drop,jC]
 have hex:=xB s b (by omega);have hexs:(s.extract b s.size).size<=800:=by rw[<-jC,hex,hvl];omega
 obtain⟨v,hv⟩:∃v,v=(aX s).drop b:=⟨_,rfl⟩;rw[<-hv]at hvl hex HO;clear hv
 have k0:=fun(u:World)=>mY (s.extract b s.size) ⟨#[105,110,102]⟩ u hexs (by decide) (by decide) (M.aI v M.fZ) (by rw[hex];rfl)
 have k1:=fun(u:World)=>mY (s.extract b s.size) ⟨#[105,110,102,105,110,105,116,121]⟩ u hexs (by decide) (by decide) (M.aI v M.aG) (by rw[hex];rfl)
 have k2:=fun(u:World)=>mY (s.extract b s.size) ⟨#[110,97,110]⟩ u hexs (by decide) (by decide) (M.aI v M.gK) (by rw[hex];rfl)
 have m0:=qE v M.fZ;have m1:=qE v M.aG;have m2:=qE v M.gK;have l0:=M.cK v M.fZ;have l1:=M.cK v M.aG;have l2:=M.cK v M.gK;generalize hc0:M.aI v M.fZ=c0 at*;generalize hc1:M.aI v M.aG=c1 at*;generalize hc2:M.aI v M.gK=c2 at*;have L0:c0<=3/\c0<=s.size-b:=⟨l0.2.2,by rw[<-hvl];exact l0.2.1⟩;have L1:c1<=8/\c1<=s.size-b:=⟨l1.2.2,by rw[<-hvl];exact l1.2.1⟩;have L2:c2<=3/\c2<=s.size-b:=⟨l2.2.2,by rw[<-hvl];exact l2.2.1⟩;rw[hvl]at m0 m1 m2;have m0:(c0=s.size-b/\c0=3)↔v.map M.low=M.fZ:=m0;have m1:(c1=s.size-b/\c1=8)↔v.map M.low=M.aG:=m1;have m2:(c2=s.size-b/\c2=3)↔v.map M.low=M.gK:=m2;have M0:=hid m0;have M1:=hid m1;have M2:=hid m2;have HC:=hid (And.intro hc0 (And.intro hc1 hc2));clear l0 l1 l2 hc0 hc1 hc2 m0 m1 m2 hex hvl;have hb':(b:Int)<=(s.size:Int):=by omega
 have hb0':(0:Int)<=(b:Int):=by omega
 go_enter Tryz.func123,Tryz.ntmps123;go_wp2_with fail
 go_loopw [7,12] (fun lv iv wr=>Cls wr w.heap.size eR 32/\Below w.heap.size w wr/\((lv=.int .i64 0/\iv=.int .i64 0)\/(lv=.int .i64 ((c0:Nat):Int)/\iv=.int .i64 1/\¬(c0=s.size-b/\c0=3))\/(lv=.int .i64 ((max c0 c1:Nat):Int)/\iv=.int .i64 2/\¬(c0=s.size-b/\c0=3)/\¬(c1=s.size-b/\c1=8))\/(lv=.int .i64 ((max (max c0 c1) c2:Nat):Int)/\iv=.int .i64 3/\¬(c0=s.size-b/\c0=3)/\¬(c1=s.size-b/\c1=8)/\¬(c2=s.size-b/\c2=3)))) (fun _ i _=>3-(intOf i).toNat)
 case atStart=>exact⟨Cls.new _ _ _,(Below.refl _ _).alloc (Nat.le_refl _) _,.inl ⟨rfl,rfl⟩⟩
 case round=>
  rename World=>wr
  obtain⟨hR,hB,hcase⟩:=hrel;rcases hcase with⟨rfl,rfl⟩|⟨rfl,rfl,n0⟩|⟨rfl,rfl,n0,n1⟩|⟨rfl,rfl,n0,n1,n2⟩
  . have bA:Below wr.heap.size wr (wr.alloc (.cells #[.string ⟨#[105,110,102]⟩,.int .i64 2] 188)):=(Below.refl _ _).alloc (Nat.le_refl _) _;have RA:=hR.below bA;have BA:=hB.trans (bA.mono hB.size);have XA:Cls (wr.alloc (.cells #[.string ⟨#[105,110,102]⟩,.int .i64 2] 188)) wr.heap.size #[.string ⟨#[105,110,102]⟩,.int .i64 2] 188:=Cls.new _ _ _;have hlr:=hR.lt;obtain⟨W1,hW1⟩:∃W1,W1=wr.alloc (.cells #[.string ⟨#[105,110,102]⟩,.int .i64 2] 188):=⟨_,rfl⟩;have HRA:=hid RA;have HBA:=hid BA;have HXA:=hid XA;rw[<-hW1]at HRA HBA HXA;have x0:=HXA.out.cell 0 (x:=.string ⟨#[105,110,102]⟩) rfl;have x1:=HXA.out.cell 1 (x:=.int .i64 2) rfl
    have Kof:∀u,Below W1.heap.size W1 u->Below W1.heap.size W1 u/\u.cell? ⟨wr.heap.size,0,none⟩=some (.string ⟨#[105,110,102]⟩):=fun u hu=>⟨hu,((HXA.out.below hu).cell 0 (x:=.string ⟨#[105,110,102]⟩) rfl)⟩
    have hnw:=nw0 wr;clear RA BA XA bA hR hB;go_wp2_with fail;clear hnw;rw[<-hW1];clear hW1
    go_region_held3 (fun u=>Below W1.heap.size W1 u/\u.cell? ⟨wr.heap.size,0,none⟩=some (.string ⟨#[105,110,102]⟩)) (first|exact Kof _ (by assumption)|exact Kof _ (below_drewN (by assumption) _)|exact Kof _ (Below.drew (by assumption))|exact Kof _ (Below.refl _ _).drew|exact Kof _ (Below.refl _ _))
     (first|(go_at_call 145;refine(k0 _).mono ?_;rintro e w' ⟨rfl,hb0⟩;have hb1:=mT (And.left (by assumption)) hb0 (Below.size (And.left (by assumption)));clear hb0))
    have HR2:=hid (HRA.out.below hb1);have HB2:=hid (HBA.out.trans (hb1.mono HBA.out.size));have XX:=HXA.out.below hb1;have x0:=XX.cell 0 (x:=.string ⟨#[105,110,102]⟩) rfl;have x1:=XX.cell 1 (x:=.int .i64 2) rfl;clear Kof XX hb1 HXA HRA HBA
    rename World=>W9
    by_cases t1:c0=s.size-b
    . have t1':(((b:Int)+(c0:Int))==(s.size:Int))=true:=by rw[beq_iff_eq];omega
      by_cases t2:c0=3
      . have hout:o=.inl ⟨2,ng,[],0⟩:=by
         rw[HO.out,M.dK,if_pos (M0.out.1 ⟨t1,t2⟩)]
        have HOO:=hid hout;have y0:=HR2.out.cell 0 (x:=.int .i64 0) rfl;have y1:=HR2.out.cell 1 (x:=.bool false) rfl;have y2:=HR2.out.cell 2 (x:=.slice none 0 0) rfl;have y3:=HR2.out.cell 3 (x:=.int .i64 0) rfl;have f0:=HR2.out.frozen 0;have f1:=HR2.out.frozen 1;have f2:=HR2.out.frozen 2;have f3:=HR2.out.frozen 3;have t2':((c0:Int)==3)=true:=by rw[beq_iff_eq];omega
        clear hout t1 t2
        cases ng with
        |false=>
         go_wp2_with fail;have R9:=pS HR2.out rfl (.int .i64 2) (.bool false) (.slice none 0 0) (.int .i64 0);have H9:=fW HB2.out (.int .i64 2) (.bool false) (.slice none 0 0) (.int .i64 0);generalize((((W9.setCell ⟨w.heap.size,0,none⟩ (.int .i64 2)).setCell ⟨w.heap.size,1,none⟩ (.bool false)).setCell ⟨w.heap.size,2,none⟩ (.slice none 0 0)).setCell ⟨w.heap.size,3,none⟩ (.int .i64 0))=w9 at R9 H9|-;have z0:=R9.cell 0 (x:=.int .i64 2) rfl;have z1:=R9.cell 1 (x:=.bool false) rfl;have z2:=R9.cell 2 (x:=.slice none 0 0) rfl;have z3:=R9.cell 3 (x:=.int .i64 0) rfl;refine bodyPost_ret (v:=.agg #[.int .i64 2,.bool false,.slice none 0 0,.int .i64 0]) (by simp[results,Tryz.results123,go_sem,z0,z1,z2,z3]) rfl ?_;rw[HOO.out];exact⟨_,rfl,OwnV.nil _ _,H9⟩
        |true=>
         go_wp2_with fail;have R9:=pS HR2.out rfl (.int .i64 2) (.bool true) (.slice none 0 0) (.int .i64 0);have H9:=fW HB2.out (.int .i64 2) (.bool true) (.slice none 0 0) (.int .i64 0);generalize((((W9.setCell ⟨w.heap.size,0,none⟩ (.int .i64 2)).setCell ⟨w.heap.size,1,none⟩ (.bool true)).setCell ⟨w.heap.size,2,none⟩ (.slice none 0 0)).setCell ⟨w.heap.size,3,none⟩ (.int .i64 0))=w9 at R9 H9|-;have z0:=R9.cell 0 (x:=.int .i64 2) rfl;have z1:=R9.cell 1 (x:=.bool true) rfl;have z2:=R9.cell 2 (x:=.slice none 0 0) rfl;have z3:=R9.cell 3 (x:=.int .i64 0) rfl;refine bodyPost_ret (v:=.agg #[.int .i64 2,.bool true,.slice none 0 0,.int .i64 0]) (by simp[results,Tryz.results123,go_sem,z0,z1,z2,z3]) rfl ?_;rw[HOO.out];exact⟨_,rfl,OwnV.nil _ _,H9⟩
      . have t2':((c0:Int)==3)=false:=by rw[beq_eq_false_iff_ne];omega
        have T2:=hid t2;clear t1 t2;go_wp2_with fail;go_roundw
        case rel=>exact⟨HR2.out,HB2.out,.inr (.inl ⟨by go_num,rfl,fun q=>T2.out q.2⟩)⟩
        case measure=>simp[intOf]
    . have t1':(((b:Int)+(c0:Int))==(s.size:Int))=false:=by rw[beq_eq_false_iff_ne];omega
      have T1:=hid t1;clear t1;go_wp2_with fail;go_roundw
      case rel=>exact⟨HR2.out,HB2.out,.inr (.inl ⟨by go_num,rfl,fun q=>T1.out q.1⟩)⟩
      case measure=>simp[intOf]
  . have N0:=hid n0;have bA:Below wr.heap.size wr (wr.alloc (.cells #[.string ⟨#[105,110,102,105,110,105,116,121]⟩,.int .i64 2] 188)):=(Below.refl _ _).alloc (Nat.le_refl _) _;have RA:=hR.below bA;have BA:=hB.trans (bA.mono hB.size);have XA:Cls (wr.alloc (.cells #[.string ⟨#[105,110,102,105,110,105,116,121]⟩,.int .i64 2] 188)) wr.heap.size #[.string ⟨#[105,110,102,105,110,105,116,121]⟩,.int .i64 2] 188:=Cls.new _ _ _;have hlr:=hR.lt;obtain⟨W1,hW1⟩:∃W1,W1=wr.alloc (.cells #[.string ⟨#[105,110,102,105,110,105,116,121]⟩,.int .i64 2] 188):=⟨_,rfl⟩;have HRA:=hid RA;have HBA:=hid BA;have HXA:=hid XA;rw[<-hW1]at HRA HBA HXA;have x0:=HXA.out.cell 0 (x:=.string ⟨#[105,110,102,105,110,105,116,121]⟩) rfl;have x1:=HXA.out.cell 1 (x:=.int .i64 2) rfl
    have Kof:∀u,Below W1.heap.size W1 u->Below W1.heap.size W1 u/\u.cell? ⟨wr.heap.size,0,none⟩=some (.string ⟨#[105,110,102,105,110,105,116,121]⟩):=fun u hu=>⟨hu,((HXA.out.below hu).cell 0 (x:=.string ⟨#[105,110,102,105,110,105,116,121]⟩) rfl)⟩
    have hnw:=nw1 wr;clear RA BA XA bA hR hB n0;go_wp2_with fail;clear hnw;rw[<-hW1];clear hW1
    go_region_held3 (fun u=>Below W1.heap.size W1 u/\u.cell? ⟨wr.heap.size,0,none⟩=some (.string ⟨#[105,110,102,105,110,105,116,121]⟩)) (first|exact Kof _ (by assumption)|exact Kof _ (below_drewN (by assumption) _)|exact Kof _ (Below.drew (by assumption))|exact Kof _ (Below.refl _ _).drew|exact Kof _ (Below.refl _ _))
     (first|(go_at_call 145;refine(k1 _).mono ?_;rintro e w' ⟨rfl,hb0⟩;have hb1:=mT (And.left (by assumption)) hb0 (Below.size (And.left (by assumption)));clear hb0))
    have HR2:=hid (HRA.out.below hb1);have HB2:=hid (HBA.out.trans (hb1.mono HBA.out.size));have XX:=HXA.out.below hb1;have x0:=XX.cell 0 (x:=.string ⟨#[105,110,102,105,110,105,116,121]⟩) rfl;have x1:=XX.cell 1 (x:=.int .i64 2) rfl;clear Kof XX hb1 HXA HRA HBA
    rename World=>W9
    by_cases t1:c1=s.size-b
    . have t1':(((b:Int)+(c1:Int))==(s.size:Int))=true:=by rw[beq_iff_eq];omega
      by_cases t2:c1=8
      . have hout:o=.inl ⟨2,ng,[],0⟩:=by
         rw[HO.out,M.dK,if_neg (fun e=>N0.out (M0.out.2 e)),if_pos (M1.out.1 ⟨t1,t2⟩)]
        have HOO:=hid hout;have y0:=HR2.out.cell 0 (x:=.int .i64 0) rfl;have y1:=HR2.out.cell 1 (x:=.bool false) rfl;have y2:=HR2.out.cell 2 (x:=.slice none 0 0) rfl;have y3:=HR2.out.cell 3 (x:=.int .i64 0) rfl;have f0:=HR2.out.frozen 0;have f1:=HR2.out.frozen 1;have f2:=HR2.out.frozen 2;have f3:=HR2.out.frozen 3;have t2':((c1:Int)==8)=true:=by rw[beq_iff_eq];omega
        clear hout t1 t2
        cases ng with
        |false=>
         go_wp2_with fail;have R9:=pS HR2.out rfl (.int .i64 2) (.bool false) (.slice none 0 0) (.int .i64 0);have H9:=fW HB2.out (.int .i64 2) (.bool false) (.slice none 0 0) (.int .i64 0);generalize((((W9.setCell ⟨w.heap.size,0,none⟩ (.int .i64 2)).setCell ⟨w.heap.size,1,none⟩ (.bool false)).setCell ⟨w.heap.size,2,none⟩ (.slice none 0 0)).setCell ⟨w.heap.size,3,none⟩ (.int .i64 0))=w9 at R9 H9|-;have z0:=R9.cell 0 (x:=.int .i64 2) rfl;have z1:=R9.cell 1 (x:=.bool false) rfl;have z2:=R9.cell 2 (x:=.slice none 0 0) rfl;have z3:=R9.cell 3 (x:=.int .i64 0) rfl;refine bodyPost_ret (v:=.agg #[.int .i64 2,.bool false,.slice none 0 0,.int .i64 0]) (by simp[results,Tryz.results123,go_sem,z0,z1,z2,z3]) rfl ?_;rw[HOO.out];exact⟨_,rfl,OwnV.nil _ _,H9⟩
        |true=>
         go_wp2_with fail;have R9:=pS HR2.out rfl (.int .i64 2) (.bool true) (.slice none 0 0) (.int .i64 0);have H9:=fW HB2.out (.int .i64 2) (.bool true) (.slice none 0 0) (.int .i64 0);generalize((((W9.setCell ⟨w.heap.size,0,none⟩ (.int .i64 2)).setCell ⟨w.heap.size,1,none⟩ (.bool true)).setCell ⟨w.heap.size,2,none⟩ (.slice none 0 0)).setCell ⟨w.heap.size,3,none⟩ (.int .i64 0))=w9 at R9 H9|-;have z0:=R9.cell 0 (x:=.int .i64 2) rfl;have z1:=R9.cell 1 (x:=.bool true) rfl;have z2:=R9.cell 2 (x:=.slice none 0 0) rfl;have z3:=R9.cell 3 (x:=.int .i64 0) rfl;refine bodyPost_ret (v:=.agg #[.int .i64 2,.bool true,.slice none 0 0,.int .i64 0]) (by simp[results,Tryz.results123,go_sem,z0,z1,z2,z3]) rfl ?_;rw[HOO.out];exact⟨_,rfl,OwnV.nil _ _,H9⟩
      . have t2':((c1:Int)==8)=false:=by rw[beq_eq_false_iff_ne];omega
        have T2:=hid t2;clear t1 t2;go_wp2_with fail;go_roundw
        case rel=>exact⟨HR2.out,HB2.out,.inr (.inr (.inl ⟨by go_num,rfl,N0.out,fun q=>T2.out q.2⟩))⟩
        case measure=>simp[intOf]
    . have t1':(((b:Int)+(c1:Int))==(s.size:Int))=false:=by rw[beq_eq_false_iff_ne];omega
      have T1:=hid t1;clear t1;go_wp2_with fail;go_roundw
      case rel=>exact⟨HR2.out,HB2.out,.inr (.inr (.inl ⟨by go_num,rfl,N0.out,fun q=>T1.out q.1⟩))⟩
      case measure=>simp[intOf]
  . have N0:=hid n0;have N1:=hid n1;have bA:Below wr.heap.size wr (wr.alloc (.cells #[.string ⟨#[110,97,110]⟩,.int .i64 3] 188)):=(Below.refl _ _).alloc (Nat.le_refl _) _;have RA:=hR.below bA;have BA:=hB.trans (bA.mono hB.size);have XA:Cls (wr.alloc (.cells #[.string ⟨#[110,97,110]⟩,.int .i64 3] 188)) wr.heap.size #[.string ⟨#[110,97,110]⟩,.int .i64 3] 188:=Cls.new _ _ _;have hlr:=hR.lt;obtain⟨W1,hW1⟩:∃W1,W1=wr.alloc (.cells #[.string ⟨#[110,97,110]⟩,.int .i64 3] 188):=⟨_,rfl⟩;have HRA:=hid RA;have HBA:=hid BA;have HXA:=hid XA;rw[<-hW1]at HRA HBA HXA;have x0:=HXA.out.cell 0 (x:=.string ⟨#[110,97,110]⟩) rfl;have x1:=HXA.out.cell 1 (x:=.int .i64 3) rfl
    have Kof:∀u,Below W1.heap.size W1 u->Below W1.heap.size W1 u/\u.cell? ⟨wr.heap.size,0,none⟩=some (.string ⟨#[110,97,110]⟩):=fun u hu=>⟨hu,((HXA.out.below hu).cell 0 (x:=.string ⟨#[110,97,110]⟩) rfl)⟩
    have hnw:=nw2 wr;clear RA BA XA bA hR hB n0 n1;go_wp2_with fail;clear hnw;rw[<-hW1];clear hW1
    go_region_held3 (fun u=>Below W1.heap.size W1 u/\u.cell? ⟨wr.heap.size,0,none⟩=some (.string ⟨#[110,97,110]⟩)) (first|exact Kof _ (by assumption)|exact Kof _ (below_drewN (by assumption) _)|exact Kof _ (Below.drew (by assumption))|exact Kof _ (Below.refl _ _).drew|exact Kof _ (Below.refl _ _))
     (first|(go_at_call 145;refine(k2 _).mono ?_;rintro e w' ⟨rfl,hb0⟩;have hb1:=mT (And.left (by assumption)) hb0 (Below.size (And.left (by assumption)));clear hb0))
    have HR2:=hid (HRA.out.below hb1);have HB2:=hid (HBA.out.trans (hb1.mono HBA.out.size));have XX:=HXA.out.below hb1;have x0:=XX.cell 0 (x:=.string ⟨#[110,97,110]⟩) rfl;have x1:=XX.cell 1 (x:=.int .i64 3) rfl;clear Kof XX hb1 HXA HRA HBA
    rename World=>W9
    by_cases t1:c2=s.size-b
    . have t1':(((b:Int)+(c2:Int))==(s.size:Int))=true:=by rw[beq_iff_eq];omega
      by_cases t2:c2=3
      . have hout:o=.inl ⟨3,false,[],0⟩:=by
         rw[HO.out,M.dK,if_neg (fun e=>N0.out (M0.out.2 e)),if_neg (fun e=>N1.out (M1.out.2 e)),if_pos (M2.out.1 ⟨t1,t2⟩)]
        have HOO:=hid hout;have y0:=HR2.out.cell 0 (x:=.int .i64 0) rfl;have y1:=HR2.out.cell 1 (x:=.bool false) rfl;have y2:=HR2.out.cell 2 (x:=.slice none 0 0) rfl;have y3:=HR2.out.cell 3 (x:=.int .i64 0) rfl;have f0:=HR2.out.frozen 0;have f1:=HR2.out.frozen 1;have f2:=HR2.out.frozen 2;have f3:=HR2.out.frozen 3;have t2':((c2:Int)==3)=true:=by rw[beq_iff_eq];omega
        clear hout t1 t2
        cases ng with
        |false=>
         go_wp2_with fail;have R9:=pS HR2.out rfl (.int .i64 3) (.bool false) (.slice none 0 0) (.int .i64 0);have H9:=fW HB2.out (.int .i64 3) (.bool false) (.slice none 0 0) (.int .i64 0);generalize((((W9.setCell ⟨w.heap.size,0,none⟩ (.int .i64 3)).setCell ⟨w.heap.size,1,none⟩ (.bool false)).setCell ⟨w.heap.size,2,none⟩ (.slice none 0 0)).setCell ⟨w.heap.size,3,none⟩ (.int .i64 0))=w9 at R9 H9|-;have z0:=R9.cell 0 (x:=.int .i64 3) rfl;have z1:=R9.cell 1 (x:=.bool false) rfl;have z2:=R9.cell 2 (x:=.slice none 0 0) rfl;have z3:=R9.cell 3 (x:=.int .i64 0) rfl;refine bodyPost_ret (v:=.agg #[.int .i64 3,.bool false,.slice none 0 0,.int .i64 0]) (by simp[results,Tryz.results123,go_sem,z0,z1,z2,z3]) rfl ?_;rw[HOO.out];exact⟨_,rfl,OwnV.nil _ _,H9⟩
        |true=>
         go_wp2_with fail;have R9:=pS HR2.out rfl (.int .i64 3) (.bool false) (.slice none 0 0) (.int .i64 0);have H9:=fW HB2.out (.int .i64 3) (.bool false) (.slice none 0 0) (.int .i64 0);generalize((((W9.setCell ⟨w.heap.size,0,none⟩ (.int .i64 3)).setCell ⟨w.heap.size,1,none⟩ (.bool false)).setCell ⟨w.heap.size,2,none⟩ (.slice none 0 0)).setCell ⟨w.heap.size,3,none⟩ (.int .i64 0))=w9 at R9 H9|-;have z0:=R9.cell 0 (x:=.int .i64 3) rfl;have z1:=R9.cell 1 (x:=.bool false) rfl;have z2:=R9.cell 2 (x:=.slice none 0 0) rfl;have z3:=R9.cell 3 (x:=.int .i64 0) rfl;refine bodyPost_ret (v:=.agg #[.int .i64 3,.bool false,.slice none 0 0,.int .i64 0]) (by simp[results,Tryz.results123,go_sem,z0,z1,z2,z3]) rfl ?_;rw[HOO.out];exact⟨_,rfl,OwnV.nil _ _,H9⟩
      . have t2':((c2:Int)==3)=false:=by rw[beq_eq_false_iff_ne];omega
        have T2:=hid t2;clear t1 t2;go_wp2_with fail;go_roundw
        case rel=>exact⟨HR2.out,HB2.out,.inr (.inr (.inr (⟨by go_num,rfl,N0.out,N1.out,fun q=>T2.out q.2⟩)))⟩
        case measure=>simp[intOf]
    . have t1':(((b:Int)+(c2:Int))==(s.size:Int))=false:=by rw[beq_eq_false_iff_ne];omega
      have T1:=hid t1;clear t1;go_wp2_with fail;go_roundw
      case rel=>exact⟨HR2.out,HB2.out,.inr (.inr (.inr (⟨by go_num,rfl,N0.out,N1.out,fun q=>T1.out q.1⟩)))⟩
      case measure=>simp[intOf]
  . have hout:o=.inr (b+max (max c0 c1) c2):=by
     rw[HO.out,M.dK,if_neg (fun e=>n0 (M0.out.2 e)),if_neg (fun e=>n1 (M1.out.2 e)),if_neg (fun e=>n2 (M2.out.2 e)),HC.out.1,HC.out.2.1,HC.out.2.2,Nat.zero_max]
    have HOO:=hid hout;have HB:=hid hB;clear hout n0 n1 n2 hR hB;have hmm:max (max c0 c1) c2<=800:=by omega
    generalize max (max c0 c1) c2=mm at*;go_wp2_with fail;refine⟨rfl,?_⟩;rw[HOO.out];exact⟨rfl,HB.out⟩

theorem LA (s:ByteArray)(w:World)(hs:s.size<=800)(hF:Fol w)(hWd:Wds w)(o:M.Dec⊕Nat)(ho:o=M.iP (aX s)):
 Calls Tryz.prog 92 #[.string s] w fun e w'=>NT w w' e o:=by
 have HO:=hid ho;clear ho;have hl:=jC s;go_enter Tryz.func92,Tryz.ntmps92;go_wp2_with fail;go_upto_block 0 with fail
 repeat(go_step3;go_upto_block 0 with fail)
 go_cut[4,5] (fun stv bv wr=>QD w wr (aX s) stv bv)
 case first=>
  go_wp2_with fail
  go_loopw [4] (fun stv wr=>∃(pos st:Nat)(sn:M.Sn),stv=.int .i64 (st:Int)/\wr.heap[w.heap.size+2]? =some (.stringIter s pos)/\pos<=s.size/\1<=st/\st<=9/\SnR wr (w.heap.size+1) (w.heap.size+3) sn/\Cls wr w.heap.size eR 32/\Below w.heap.size w wr/\M.aR (aX s) 0 1 (M.s0 false)=M.aR ((aX s).drop pos) pos st sn/\sn.digits.length<=pos/\sn.behind<=pos/\sn.exponent<=1000000/\∀x∈sn.digits,x<256) (fun _ wr=>s.size-World.iterPos wr (w.heap.size+2))
  case atStart=>
   obtain⟨a1,a2,a3,a4⟩:=LJ w s _ rfl
   exact⟨0,1,M.s0 false,rfl,a1,by omega,by omega,by omega,a2,a3,a4,by rw[List.drop_zero],by simp,by simp,by simp,fun x hx=>by simp at hx⟩
  case round=>
   rename World=>wr
   obtain⟨pos,st,sn,rfl,hit,hps,hs1,hs9,hSn,hZ,hB,hW,hl1,hl2,hl3,hl4⟩:=hrel;have HL4:=hid hl4;clear hl4;have hpos0:=iterPos_of hit
   by_cases hp:pos<s.size
   . obtain⟨l,p',hnx,hlm,hll⟩:=qJ wr (w.heap.size+2) s pos hit hp;have HP:=hid hp;have hit2:=Lib.iterAt_heap wr (w.heap.size+2) s pos p' hit;have hB2:=Lib.below_iterAt hB (k:=w.heap.size+2) (by omega) s p';have hSn2:=hSn.iterAt (w.heap.size+2) (by omega) (by omega) s p';have hZ2:=hZ.iterAt (w.heap.size+2) (by omega) s p';have hF2:=hF.below hB2;obtain⟨W1,hW1⟩:∃W1,W1=wr.iterAt (w.heap.size+2) s p':=⟨_,rfl⟩;rw[<-hW1]at hnx hit2 hB2 hSn2 hZ2 hF2
     have hso:M.aF l=M.aF ((aX s).getD pos 0):=by
      rcases hll with⟨_,e,_⟩|⟨e1,e2,_⟩
      . rw[e]
      . rw[pH _ e1,pH _ e2]
     have hsl:=MQ l;have hcell:=hF2.2 st (M.aF l) (by omega) hsl
     have kS:=fun(u:World)=>BF l hlm u _ rfl
     have hdr:=l9 (aX s) pos (by omega);rw[hdr]at hW;generalize(aX s).getD pos 0=c at*;generalize hSo:M.aF l=so at*;have hs1':(0:Int)<=(st:Int):=by omega
     have hs9':(st:Int)<10:=by omega
     have hso':(so:Int)<6:=by omega
     have HW:=hid hW;have HB:=hid hB2;have HSN:=hid hSn2;have HZ:=hid hZ2;have HIT:=hid hit2;have HLL:=hid hll;have HFW:=hid hF2;have HSS:=hid hso;have HSO:=hid hSo;clear hW hB hB2 hSn hSn2 hZ hZ2 hit hit2 hll hF2 hW1 hso hdr hSo;go_wp2_with fail
     go_quiet((go_at_call 121;exact Calls.quiet_of_same (kS _)))
     have bq:Below W1.heap.size W1 (W1.drewN nq):=below_drewN (Below.refl _ _) nq;have HB2:=hid (HB.out.trans (bq.mono HB.out.size));have HSN2:=hid (HSN.out.below bq);have HZ2:=hid (HZ.out.below bq);have HIT2:Hid ((W1.drewN nq).heap[w.heap.size+2]? =some (.stringIter s p')):=hid ((bq.block _ (lt_of_block HIT.out)).trans HIT.out);generalize W1.drewN nq=W2 at*;clear bq HB HSN HZ HIT hcell kS HFW;have hn10:=M.DM st so;have hn2:=I0 (so:=so) hs1;have hnd:=BK (st:=st) (so:=so)
     have hwk:∀r,M.next st so≠0->M.next st so≠10->M.aR (c::r) pos st sn=M.aR r (pos+1) (M.next st so) (M.take (M.next st so) c sn):=fun r e0 e1=>M.step r pos sn (by rw[<-HSS.out]) e0 e1
     have hw0:∀r,M.next st so=0->M.aR (c::r) pos st sn=.stuck pos:=fun r e0=>by rw[M.aR,<-HSS.out,if_pos e0]
     have hw1:∀r,M.next st so=10->M.aR (c::r) pos st sn=.word pos sn.neg:=fun r e0=>by rw[M.aR,<-HSS.out,if_neg (by omega),if_pos e0]
     have hz0:so=0->M.next st so=0:=fun e=>by rw[e];exact M.NR st
     generalize M.next st so=ns at*
     by_cases e0:ns=0
     . subst e0;have hout:o=.inr pos:=by rw[HO.out,M.iP,HW.out,hw0 _ rfl];rfl
       have HOO:=hid hout;clear hwk hw0 hw1 hnd hn2 hout hz0;go_wp2_with fail;simp only[Exit.noGoto];refine⟨rfl,?_⟩;rw[HOO.out];exact⟨rfl,HB2.out⟩
     . by_cases e1:ns=10
       . subst e1;have hww:=HW.out.trans (hw1 _ rfl);have HWW:=hid hww;clear hwk hw0 hw1 hnd hn2 hww e0 hz0;go_wp2_with fail;go_meet
         case rel=>exact⟨10,sn,rfl,HSN2.out,HZ2.out,HB2.out,.inr ⟨rfl,pos,rfl,by omega,HWW.out⟩⟩
       . have hww:=HW.out.trans (hwk _ e0 e1);have hb0:((ns:Int)==0)=false:=by rw[beq_eq_false_iff_ne];omega
         have hb1:((ns:Int)==10)=false:=by rw[beq_eq_false_iff_ne];omega
         have h2n:=hn2 e0;have h9n:ns<=9:=by omega
         have H2N:=hid h2n;have H9N:=hid h9n
         have hso0:so≠0:=fun e=>e0 (hz0 e)
         have hcl:c<128/\l=c/\p'=pos+1:=by
          rcases HLL.out with q|q
          . exact q
          . exfalso;exact hso0 (by rw[<-HSO.out];exact pH l q.2.1)
         obtain⟨hc1,rfl,rfl⟩:=hcl
         have kT:=KV (w.heap.size+1) (w.heap.size+3) ns l sn W2 HSN2.out (by omega) (by omega) hl3 ⟨h2n,by omega⟩ hlm (fun q=>tO (by rw[HSO.out];exact hnd q))
         have HWW:=hid hww;clear hwk hw0 hw1 hnd hn2 hww e0 e1 hz0 hso0;go_wp2_with fail;refine kT.mono ?_;rintro e W3 ⟨rfl,hS3,hK3⟩;have HS3:=hid hS3;have HK3:=hid hK3;clear hS3 hK3 kT;go_wp2_with fail;go_roundw
         case rel=>
          have:=LG ns l sn pos hl1 hl2 hl3;exact⟨pos+1,ns,M.take ns l sn,rfl,(HK3.out.keep (w.heap.size+2) (by omega) (by omega)).trans HIT2.out,HP.out,Nat.le_trans (by omega) H2N.out,H9N.out,HS3.out,(HK3.out.keep w.heap.size (by omega) (by omega)).trans HZ2.out,HB2.out.trans (HK3.out.below.mono (by omega)),HWW.out,this.1,this.2.1,this.2.2,LP ns l sn (by omega) HL4.out⟩
         case measure=>
          rw[iterPos_of ((HK3.out.keep (w.heap.size+2) (by omega) (by omega)).trans HIT2.out),hpos0];have:=HP.out;omega
   . have hend:∀ty,(Instr.next (.pointer (some ⟨w.heap.size+2,0,none⟩)) true ty).run Tryz.prog wr=.ok (.tuple #[.bool false]) wr:=fun ty=>Lib.run_next_end_at wr (w.heap.size+2) s pos ty hit hp
     have hnil:(aX s).drop pos=[]:=List.drop_eq_nil_of_le (by omega);rw[hnil]at hW;have HW:=hid hW;have HB:=hid hB;have HSN:=hid hSn;have HZ:=hid hZ;clear hW hB hSn hZ hit hnil;go_wp2_with fail;go_meet
     case rel=>exact⟨st,sn,rfl,HSN.out,HZ.out,HB.out,.inl ⟨hs9,hs1,HW.out,by omega,by omega,hl3,HL4.out⟩⟩
 case rest=>
  rename World=>wr
  obtain⟨st,sn,rfl,hSn,hZ,hB,hcase⟩:=hcut;have hW2:=hWd.below hB;rcases hcase with⟨h9,h1,hw,g1,g2,g3,g4⟩|⟨rfl,b,rfl,hbl,hw⟩
  . have hx10:((st:Int)==10)=false:=by rw[beq_eq_false_iff_ne];omega
    by_cases hg:st=3\/st=5\/st=6\/st=9
    . have hout:o=.inl sn.dec:=by rw[HO.out,M.iP,hw];simp[M.Out.scan,M.A7,hg]
      have kD:=xF (w.heap.size+1) (w.heap.size+3) sn wr hSn (by omega) (by omega) g3 g4;have HOO:=hid hout;have HB:=hid hB;have HZ:=hid hZ;clear hout hw hSn hB hZ;rcases hg with rfl|rfl|rfl|rfl
      all_goals
       go_wp2_with fail;refine kD.mono ?_;rintro e W3 ⟨xv,rfl,hV,b3⟩;obtain⟨xa,xc,rfl,hv2⟩:=hV;have V3:OwnV W3 (w.heap.size+3) (.slice xa sn.dec.digits.length xc) sn.dec.digits:=⟨xa,xc,rfl,hv2⟩;have R3:=HZ.out.below b3;have B3:=HB.out.trans (b3.mono HB.out.size);have HV3:=hid V3;have HR3:=hid R3;have HB3:=hid B3;clear V3 R3 B3 hv2 kD b3;have y0:=HR3.out.cell 0 (x:=.int .i64 0) rfl;have y1:=HR3.out.cell 1 (x:=.bool false) rfl;have y2:=HR3.out.cell 2 (x:=.slice none 0 0) rfl;have y3:=HR3.out.cell 3 (x:=.int .i64 0) rfl;have f0:=HR3.out.frozen 0;have f1:=HR3.out.frozen 1;have f2:=HR3.out.frozen 2;have f3:=HR3.out.frozen 3;have ltR:w.heap.size<w.heap.size+3:=by omega
       unfold rR;go_wp2_with fail;have R9:=pS HR3.out rfl (.int .i64 sn.dec.kind) (.bool sn.dec.neg) (.slice xa sn.dec.digits.length xc) (.int .i64 sn.dec.exp);have H9:=fW HB3.out (.int .i64 sn.dec.kind) (.bool sn.dec.neg) (.slice xa sn.dec.digits.length xc) (.int .i64 sn.dec.exp);have O9:=(((HV3.out.far ⟨w.heap.size,0,none⟩ ltR (.int .i64 sn.dec.kind)).far ⟨w.heap.size,1,none⟩ ltR (.bool sn.dec.neg)).far ⟨w.heap.size,2,none⟩ ltR (.slice xa sn.dec.digits.length xc)).far ⟨w.heap.size,3,none⟩ ltR (.int .i64 sn.dec.exp);generalize((((W3.setCell ⟨w.heap.size,0,none⟩ (.int .i64 sn.dec.kind)).setCell ⟨w.heap.size,1,none⟩ (.bool sn.dec.neg)).setCell ⟨w.heap.size,2,none⟩ (.slice xa sn.dec.digits.length xc)).setCell ⟨w.heap.size,3,none⟩ (.int .i64 sn.dec.exp))=w9 at R9 H9 O9|-;have z0:=R9.cell 0 (x:=.int .i64 sn.dec.kind) rfl;have z1:=R9.cell 1 (x:=.bool sn.dec.neg) rfl;have z2:=R9.cell 2 (x:=.slice xa sn.dec.digits.length xc) rfl;have z3:=R9.cell 3 (x:=.int .i64 sn.dec.exp) rfl;simp only[Exit.noGoto];refine bodyPost_ret (v:=.agg #[.int .i64 sn.dec.kind,.bool sn.dec.neg,.slice xa sn.dec.digits.length xc,.int .i64 sn.dec.exp]) (by simp[results,Tryz.results92,go_sem,z0,z1,z2,z3]) rfl ?_;rw[HOO.out];exact⟨_,rfl,O9.low (by omega),H9⟩
    . have hout:o=.inr (aX s).length:=by rw[HO.out,M.iP,hw];simp[M.Out.scan,M.A7,hg]
      have b3:((st:Int)==3)=false:=by rw[beq_eq_false_iff_ne];omega
      have b5:((st:Int)==5)=false:=by rw[beq_eq_false_iff_ne];omega
      have b6:((st:Int)==6)=false:=by rw[beq_eq_false_iff_ne];omega
      have b9:((st:Int)==9)=false:=by rw[beq_eq_false_iff_ne];omega
      have HOO:=hid hout;have HB:=hid hB;clear hout hw hSn hB hZ hg;go_wp2_with fail;refine⟨rfl,?_⟩;rw[HOO.out,hl];exact⟨rfl,HB.out⟩
  . have hout:o=M.dK ((aX s).drop b) b sn.neg:=by rw[HO.out,M.iP,hw];rfl
    have kW:=wG s b sn.neg wr hs (by omega) hW2 _ rfl;obtain⟨_,_,aa,cc,hC,_⟩:=hSn;have c0:=hC.cell 0 (x:=.bool sn.neg) rfl;have HOO:=hid hout;have HB:=hid hB;have HZ:=hid hZ;clear hout hw hB hZ hC;go_wp2_with fail;refine kW.mono ?_;intro e W4 hP;rw[<-HOO.out]at hP;have HOW:=HOO;clear kW HOO;have hlr:w.heap.size<wr.heap.size:=HZ.out.lt
    cases o with
    |inl d=>
      obtain⟨xv,rfl,hV,b4⟩:=hP;obtain⟨xa,xc,rfl,hv2⟩:=hV;have V4:OwnV W4 wr.heap.size (.slice xa d.digits.length xc) d.digits:=⟨xa,xc,rfl,hv2⟩;have HV4:=hid V4;have HR4:=hid (HZ.out.below b4);have HB4:=hid (HB.out.trans (b4.mono HB.out.size));clear V4 hv2 b4;have y0:=HR4.out.cell 0 (x:=.int .i64 0) rfl;have y1:=HR4.out.cell 1 (x:=.bool false) rfl;have y2:=HR4.out.cell 2 (x:=.slice none 0 0) rfl;have y3:=HR4.out.cell 3 (x:=.int .i64 0) rfl;have f0:=HR4.out.frozen 0;have f1:=HR4.out.frozen 1;have f2:=HR4.out.frozen 2;have f3:=HR4.out.frozen 3;have ltR:w.heap.size<wr.heap.size:=hlr;unfold rR;go_wp2_with fail;have R9:=pS HR4.out rfl (.int .i64 d.kind) (.bool d.neg) (.slice xa d.digits.length xc) (.int .i64 d.exp);have H9:=fW HB4.out (.int .i64 d.kind) (.bool d.neg) (.slice xa d.digits.length xc) (.int .i64 d.exp);have O9:=(((HV4.out.far ⟨w.heap.size,0,none⟩ ltR (.int .i64 d.kind)).far ⟨w.heap.size,1,none⟩ ltR (.bool d.neg)).far ⟨w.heap.size,2,none⟩ ltR (.slice xa d.digits.length xc)).far ⟨w.heap.size,3,none⟩ ltR (.int .i64 d.exp);generalize((((W4.setCell ⟨w.heap.size,0,none⟩ (.int .i64 d.kind)).setCell ⟨w.heap.size,1,none⟩ (.bool d.neg)).setCell ⟨w.heap.size,2,none⟩ (.slice xa d.digits.length xc)).setCell ⟨w.heap.size,3,none⟩ (.int .i64 d.exp))=w9 at R9 H9 O9|-;have z0:=R9.cell 0 (x:=.int .i64 d.kind) rfl;have z1:=R9.cell 1 (x:=.bool d.neg) rfl;have z2:=R9.cell 2 (x:=.slice xa d.digits.length xc) rfl;have z3:=R9.cell 3 (x:=.int .i64 d.exp) rfl;simp only[Exit.noGoto];refine bodyPost_ret (v:=.agg #[.int .i64 d.kind,.bool d.neg,.slice xa d.digits.length xc,.int .i64 d.exp]) (by simp[results,Tryz.results92,go_sem,z0,z1,z2,z3]) rfl ?_;exact⟨_,rfl,O9.low (Nat.le_of_lt hlr),H9⟩
    |inr k=>
      obtain⟨rfl,b4⟩:=hP;have HB4:=hid (HB.out.trans (b4.mono HB.out.size))
      first|(refine⟨rfl,?_⟩;exact⟨rfl,HB4.out⟩)|(simp only[Exit.noGoto];refine⟨rfl,?_⟩;exact⟨rfl,HB4.out⟩)

end Go.Proofs.YtfdgkleoaehjaaaGreatDoor
