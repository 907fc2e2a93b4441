import Derived.Test.YtfdgkleoaehjaaaGreatDoorCards
import Derived.Test.YtfdgkleoaehjaaaGreatDoorTie
import Derived.ProofKit
import Derived.OpenShut
import Derived.Deep.DeepHandedRow
import Derived.Lib.LaidTab
import Derived.Lib.LaidU8
import Derived.ChangeOld
import Derived.Below
import Derived.Test.YtfdgkleoaehjaaaGreatDoorfGAR
namespace Go.Proofs.YtfdgkleoaehjaaaGreatDoor
open Go.ChangeShapes Go.WideShapes Go.ChangeAt Go.RowKit
set_option linter.unusedVariables false
set_option maxRecDepth 100000

theorem Tryz.own:ownKnob Tryz.prog.godebug=none:=by kernel_rfl

theorem Tryz.gFmt:Tryz.prog.globalNamed "loop.example/s01493/impl.formats" =some 0:=by kernel_rfl

theorem Tryz.gFmtType:(Tryz.prog.globals[0]?).map (·.type)=some 94:=by kernel_rfl

theorem Tryz.cellsInt:Tryz.prog.cellsOf 3=1:=by kernel_rfl

theorem Tryz.cellsBool:Tryz.prog.cellsOf 4=1:=by kernel_rfl

theorem Tryz.cellsDesc:Tryz.prog.cellsOf 37=6:=by kernel_rfl

theorem Tryz.cellsFmts:Tryz.prog.cellsOf 94=24:=by kernel_rfl

theorem desc6 {H:Type}{enc:TypeId×Value->H}{w:World}{base:Nat}{sp:Nat->Bool}{held:Bool}{fuel:Nat}{l:List Value}{a b c d e:Int}{x:Bool}{p:List MemPlace}
 (h:DataW.trod enc Tryz.prog w base sp held fuel 37 l=some (.agg [.lit (.int .i64 a),.lit (.int .i64 b),.lit (.int .i64 c),.lit (.int .i64 d),.lit (.int .i64 e),.lit (.bool x)],p)):
 l=[.int .i64 a,.int .i64 b,.int .i64 c,.int .i64 d,.int .i64 e,.bool x]:=by
 obtain⟨xs,n,rfl,hx,hl,hxl,hall⟩:=DataW.trod_struct Tryz.underlying37 h;rw[Tryz.cellsDesc]at hl;have f0:DataW.trod enc Tryz.prog w base sp held n 3 ((l.drop 0).take (Tryz.prog.cellsOf 3))=xs[0]?:=hall 0 _ rfl;have f1:DataW.trod enc Tryz.prog w base sp held n 3 ((l.drop 1).take (Tryz.prog.cellsOf 3))=xs[1]?:=hall 1 _ rfl;have f2:DataW.trod enc Tryz.prog w base sp held n 3 ((l.drop 2).take (Tryz.prog.cellsOf 3))=xs[2]?:=hall 2 _ rfl;have f3:DataW.trod enc Tryz.prog w base sp held n 3 ((l.drop 3).take (Tryz.prog.cellsOf 3))=xs[3]?:=hall 3 _ rfl;have f4:DataW.trod enc Tryz.prog w base sp held n 3 ((l.drop 4).take (Tryz.prog.cellsOf 3))=xs[4]?:=hall 4 _ rfl;have f5:DataW.trod enc Tryz.prog w base sp held n 4 ((l.drop 5).take (Tryz.prog.cellsOf 4))=xs[5]?:=hall 5 _ rfl
 match xs,hxl,hx,f0,f1,f2,f3,f4,f5 with
 |[x0,x1,x2,x3,x4,x5],_,hx,f0,f1,f2,f3,f4,f5=>
  simp only[List.map_cons,List.map_nil,Prod.mk.injEq,DataW.agg.injEq,List.cons.injEq,and_true]at hx;obtain⟨⟨g0,g1,g2,g3,g4,g5⟩,_⟩:=hx;rw[Tryz.cellsInt]at f0 f1 f2 f3 f4;rw[Tryz.cellsBool]at f5;obtain⟨z0,e0,y0,_⟩:=DataW.trod_int Tryz.underlying3 f0;obtain⟨z1,e1,y1,_⟩:=DataW.trod_int Tryz.underlying3 f1;obtain⟨z2,e2,y2,_⟩:=DataW.trod_int Tryz.underlying3 f2;obtain⟨z3,e3,y3,_⟩:=DataW.trod_int Tryz.underlying3 f3;obtain⟨z4,e4,y4,_⟩:=DataW.trod_int Tryz.underlying3 f4;obtain⟨z5,e5,y5⟩:=DataW.trod_bool Tryz.underlying4 f5;subst y0;subst y1;subst y2;subst y3;subst y4;subst y5;simp only[DataW.lit.injEq,Lit.int.injEq,Lit.bool.injEq,true_and]at g0 g1 g2 g3 g4 g5;subst g0;subst g1;subst g2;subst g3;subst g4;subst g5
  match l,hl with
  |[l0,l1,l2,l3,l4,l5],_=>
   simp at e0 e1 e2 e3 e4 e5
   rw[e0,e1,e2,e3,e4,e5]

theorem var_of_laid {W:World}(h:laidMetH Tryz.prog Rows.fnFastRow.laid W):
 W.var? Tryz.prog "loop.example/s01493/impl.formats" =some fmtC:=by
 rw[MakeChecks.laidMetH_plain _ _ _ (by kernel_rfl)]at h;obtain⟨g,t,cs,fuel,p,h1,h2,h3,h4⟩:=Lib.laidMet.reads h (.tail _ (.head _));obtain rfl:=Option.some.inj (Tryz.gFmt.symm.trans h1);obtain rfl:=Option.some.inj (Tryz.gFmtType.symm.trans h2);rw[h3]
 have hlen:cs.toList.length=24:=by
  obtain⟨xs,m,rfl,hx,hl,hn,hel⟩:=DataW.trod_array Tryz.underlying94 h4;rw[hl,Tryz.cellsFmts]
 obtain⟨f0,d0,q0,e0,t0⟩:=Lib.array_elem Tryz.underlying94 h4 0 (by decide);obtain⟨f1,d1,q1,e1,t1⟩:=Lib.array_elem Tryz.underlying94 h4 1 (by decide);obtain⟨f2,d2,q2,e2,t2⟩:=Lib.array_elem Tryz.underlying94 h4 2 (by decide);obtain⟨f3,d3,q3,e3,t3⟩:=Lib.array_elem Tryz.underlying94 h4 3 (by decide);rw[Tryz.cellsDesc]at t0 t1 t2 t3;obtain rfl:=Option.some.inj e0;obtain rfl:=Option.some.inj e1;obtain rfl:=Option.some.inj e2;obtain rfl:=Option.some.inj e3;have k0:=desc6 t0;have k1:=desc6 t1;have k2:=desc6 t2;have k3:=desc6 t3;clear t0 t1 t2 t3 h4 h1 h2 h3 h e0 e1 e2 e3;obtain⟨l⟩:=cs;simp only at hlen k0 k1 k2 k3
 have e:l=l.take 6++((l.drop 6).take 6++((l.drop 12).take 6++(l.drop 18).take 6)):=by
  have a1:(l.drop 18).take 6=l.drop 18:=List.take_of_length_le (by simp;omega);have a2:l.drop 18=(l.drop 12).drop 6:=by simp
  have a3:l.drop 12=(l.drop 6).drop 6:=by simp
  rw[a1,a2,List.take_append_drop,a3,List.take_append_drop,List.take_append_drop]
 simp at k0 k1 k2 k3
 rw[k0,k1,k2,k3]at e;rw[e]
 rfl

theorem fmt_of_var {W:World}(h:W.var? Tryz.prog "loop.example/s01493/impl.formats" =some fmtC):Fmt W:=by
 have hc:=fun i=>World.var?_cell Tryz.gFmt h i
 refine⟨?_,fun j hj=>hc j⟩
 exact World.block_lt_of_cell? W ⟨0,0,none⟩ (hc 0)

theorem fmt_reads {H:Type}(enc:TypeId×Value->H)(W:World)(sp:Nat->Bool)(held:Bool):
 DataW.trod enc Tryz.prog W 0 sp held 8 94 fmtC.toList=some (Rows.laid_loop_example_s01493_impl_formats,[]):=by kernel_rfl

theorem var_below {W W':World}(h:W.var? Tryz.prog "loop.example/s01493/impl.formats" =some fmtC)(hb:Below W.heap.size W W'):W'.var? Tryz.prog "loop.example/s01493/impl.formats" =some fmtC:=by
 have hlt:=(fmt_of_var h).1;unfold World.var? at h|-;simp only[Tryz.gFmt,Option.bind_some]at h|-;rw[hb.block 0 hlt];exact h

def folC:Array Value:=#[.int .i64 0,.int .i64 0,.int .i64 0,.int .i64 0,.int .i64 0,.int .i64 0,.int .i64 0,.int .i64 3,.int .i64 2,.int .i64 4,.int .i64 0,.int .i64 10,.int .i64 0,.int .i64 3,.int .i64 0,.int .i64 4,.int .i64 0,.int .i64 10,.int .i64 0,.int .i64 3,.int .i64 0,.int .i64 5,.int .i64 7,.int .i64 0,.int .i64 0,.int .i64 6,.int .i64 0,.int .i64 0,.int .i64 0,.int .i64 0,.int .i64 0,.int .i64 6,.int .i64 0,.int .i64 0,.int .i64 7,.int .i64 0,.int .i64 0,.int .i64 6,.int .i64 0,.int .i64 0,.int .i64 7,.int .i64 0,.int .i64 0,.int .i64 9,.int .i64 8,.int .i64 0,.int .i64 0,.int .i64 0,.int .i64 0,.int .i64 9,.int .i64 0,.int .i64 0,.int .i64 0,.int .i64 0,.int .i64 0,.int .i64 9,.int .i64 0,.int .i64 0,.int .i64 0,.int .i64 0]

def wdsC:Array Value:=#[.string ⟨#[105,110,102]⟩,.int .i64 2,.string ⟨#[105,110,102,105,110,105,116,121]⟩,.int .i64 2,.string ⟨#[110,97,110]⟩,.int .i64 3]

def accC:Array Value:=#[.int .u8 128,.int .u8 191,.int .u8 160,.int .u8 191,.int .u8 128,.int .u8 159,.int .u8 144,.int .u8 191,.int .u8 128,.int .u8 143,.int .u8 0,.int .u8 0,.int .u8 0,.int .u8 0,.int .u8 0,.int .u8 0,.int .u8 0,.int .u8 0,.int .u8 0,.int .u8 0,.int .u8 0,.int .u8 0,.int .u8 0,.int .u8 0,.int .u8 0,.int .u8 0,.int .u8 0,.int .u8 0,.int .u8 0,.int .u8 0,.int .u8 0,.int .u8 0]

def fstC:Array Value:=(Lib.firstTab.map fun z=>Value.int .u8 z).toArray

theorem Tryz.gFol:Tryz.prog.globalNamed "loop.example/s01493/impl.follows" =some 1:=by kernel_rfl

theorem Tryz.gFolType:(Tryz.prog.globals[1]?).map (·.type)=some 163:=by kernel_rfl

theorem Tryz.gWds:Tryz.prog.globalNamed "loop.example/s01493/impl.numberWords" =some 2:=by kernel_rfl

theorem Tryz.gWdsType:(Tryz.prog.globals[2]?).map (·.type)=some 189:=by kernel_rfl

theorem Tryz.cellsStr:Tryz.prog.cellsOf 9=1:=by kernel_rfl

theorem Tryz.cellsRow:Tryz.prog.cellsOf 162=6:=by kernel_rfl

theorem Tryz.cellsFol:Tryz.prog.cellsOf 163=60:=by kernel_rfl

theorem Tryz.cellsWord:Tryz.prog.cellsOf 188=2:=by kernel_rfl

theorem Tryz.cellsWds:Tryz.prog.cellsOf 189=6:=by kernel_rfl

theorem row6 {H:Type}{enc:TypeId×Value->H}{w:World}{base:Nat}{sp:Nat->Bool}{held:Bool}{fuel:Nat}{l:List Value}{a b c d e f:Int}{p:List MemPlace}
 (h:DataW.trod enc Tryz.prog w base sp held fuel 162 l=some (.agg [.lit (.int .i64 a),.lit (.int .i64 b),.lit (.int .i64 c),.lit (.int .i64 d),.lit (.int .i64 e),.lit (.int .i64 f)],p)):
 l=[.int .i64 a,.int .i64 b,.int .i64 c,.int .i64 d,.int .i64 e,.int .i64 f]:=by
 have hl:l.length=6:=by
  obtain⟨xs,m,rfl,hx,hl,hn,hel⟩:=DataW.trod_array Tryz.underlying162 h;rw[hl,Tryz.cellsRow]
 obtain⟨f0,d0,q0,e0,t0⟩:=Lib.array_elem Tryz.underlying162 h 0 (by decide);obtain⟨f1,d1,q1,e1,t1⟩:=Lib.array_elem Tryz.underlying162 h 1 (by decide);obtain⟨f2,d2,q2,e2,t2⟩:=Lib.array_elem Tryz.underlying162 h 2 (by decide);obtain⟨f3,d3,q3,e3,t3⟩:=Lib.array_elem Tryz.underlying162 h 3 (by decide);obtain⟨f4,d4,q4,e4,t4⟩:=Lib.array_elem Tryz.underlying162 h 4 (by decide);obtain⟨f5,d5,q5,e5,t5⟩:=Lib.array_elem Tryz.underlying162 h 5 (by decide);rw[Tryz.cellsInt]at t0 t1 t2 t3 t4 t5;obtain rfl:=Option.some.inj e0;obtain rfl:=Option.some.inj e1;obtain rfl:=Option.some.inj e2;obtain rfl:=Option.some.inj e3;obtain rfl:=Option.some.inj e4;obtain rfl:=Option.some.inj e5;obtain⟨z0,k0,y0,_⟩:=DataW.trod_int Tryz.underlying3 t0;obtain⟨z1,k1,y1,_⟩:=DataW.trod_int Tryz.underlying3 t1;obtain⟨z2,k2,y2,_⟩:=DataW.trod_int Tryz.underlying3 t2;obtain⟨z3,k3,y3,_⟩:=DataW.trod_int Tryz.underlying3 t3;obtain⟨z4,k4,y4,_⟩:=DataW.trod_int Tryz.underlying3 t4;obtain⟨z5,k5,y5,_⟩:=DataW.trod_int Tryz.underlying3 t5;simp only[Prod.mk.injEq,DataW.lit.injEq,Lit.int.injEq,true_and]at y0 y1 y2 y3 y4 y5;obtain⟨rfl,_⟩:=y0;obtain⟨rfl,_⟩:=y1;obtain⟨rfl,_⟩:=y2;obtain⟨rfl,_⟩:=y3;obtain⟨rfl,_⟩:=y4;obtain⟨rfl,_⟩:=y5
 match l,hl with
 |[l0,l1,l2,l3,l4,l5],_=>
  simp at k0 k1 k2 k3 k4 k5
  rw[k0,k1,k2,k3,k4,k5]

theorem word2 {H:Type}{enc:TypeId×Value->H}{w:World}{base:Nat}{sp:Nat->Bool}{held:Bool}{fuel:Nat}{l:List Value}{s:ByteArray}{z:Int}{p:List MemPlace}
 (h:DataW.trod enc Tryz.prog w base sp held fuel 188 l=some (.agg [.lit (.string s.data.toList),.lit (.int .i64 z)],p)):
 l=[.string s,.int .i64 z]:=by
 obtain⟨xs,n,rfl,hx,hl,hxl,hall⟩:=DataW.trod_struct Tryz.underlying188 h;rw[Tryz.cellsWord]at hl;have f0:DataW.trod enc Tryz.prog w base sp held n 9 ((l.drop 0).take (Tryz.prog.cellsOf 9))=xs[0]?:=hall 0 _ rfl;have f1:DataW.trod enc Tryz.prog w base sp held n 3 ((l.drop 1).take (Tryz.prog.cellsOf 3))=xs[1]?:=hall 1 _ rfl
 match xs,hxl,hx,f0,f1 with
 |[x0,x1],_,hx,f0,f1=>
  simp only[List.map_cons,List.map_nil,Prod.mk.injEq,DataW.agg.injEq,List.cons.injEq,and_true]at hx;obtain⟨⟨g0,g1⟩,_⟩:=hx;rw[Tryz.cellsStr]at f0;rw[Tryz.cellsInt]at f1;obtain⟨s0,e0,y0,_⟩:=DataW.trod_string Tryz.underlying9 f0;obtain⟨z1,e1,y1,_⟩:=DataW.trod_int Tryz.underlying3 f1;subst y0;subst y1;simp only[DataW.lit.injEq,Lit.int.injEq,Lit.string.injEq,true_and]at g0 g1;subst g1
  have hs:s0=s:=by
   cases s0;cases s;simp only[ByteArray.mk.injEq];exact Array.toList_inj.1 g0.symm
  subst hs
  match l,hl with
  |[l0,l1],_=>
   simp at e0 e1
   rw[e0,e1]

theorem fol_of_laid {W:World}(h:laidMetH Tryz.prog Rows.fnFastRow.laid W):
 W.var? Tryz.prog "loop.example/s01493/impl.follows" =some folC:=by
 rw[MakeChecks.laidMetH_plain _ _ _ (by kernel_rfl)]at h;obtain⟨g,t,cs,fuel,p,h1,h2,h3,h4⟩:=Lib.laidMet.reads h (.tail _ (.tail _ (.head _)));obtain rfl:=Option.some.inj (Tryz.gFol.symm.trans h1);obtain rfl:=Option.some.inj (Tryz.gFolType.symm.trans h2);rw[h3]
 have hlen:cs.toList.length=60:=by
  obtain⟨xs,m,rfl,hx,hl,hn,hel⟩:=DataW.trod_array Tryz.underlying163 h4;rw[hl,Tryz.cellsFol]
 obtain⟨f0,d0,q0,e0,t0⟩:=Lib.array_elem Tryz.underlying163 h4 0 (by decide);obtain⟨f1,d1,q1,e1,t1⟩:=Lib.array_elem Tryz.underlying163 h4 1 (by decide);obtain⟨f2,d2,q2,e2,t2⟩:=Lib.array_elem Tryz.underlying163 h4 2 (by decide);obtain⟨f3,d3,q3,e3,t3⟩:=Lib.array_elem Tryz.underlying163 h4 3 (by decide);obtain⟨f4,d4,q4,e4,t4⟩:=Lib.array_elem Tryz.underlying163 h4 4 (by decide);obtain⟨f5,d5,q5,e5,t5⟩:=Lib.array_elem Tryz.underlying163 h4 5 (by decide);obtain⟨f6,d6,q6,e6,t6⟩:=Lib.array_elem Tryz.underlying163 h4 6 (by decide);obtain⟨f7,d7,q7,e7,t7⟩:=Lib.array_elem Tryz.underlying163 h4 7 (by decide);obtain⟨f8,d8,q8,e8,t8⟩:=Lib.array_elem Tryz.underlying163 h4 8 (by decide);obtain⟨f9,d9,q9,e9,t9⟩:=Lib.array_elem Tryz.underlying163 h4 9 (by decide);rw[Tryz.cellsRow]at t0 t1 t2 t3 t4 t5 t6 t7 t8 t9;obtain rfl:=Option.some.inj e0;obtain rfl:=Option.some.inj e1;obtain rfl:=Option.some.inj e2;obtain rfl:=Option.some.inj e3;obtain rfl:=Option.some.inj e4;obtain rfl:=Option.some.inj e5;obtain rfl:=Option.some.inj e6;obtain rfl:=Option.some.inj e7;obtain rfl:=Option.some.inj e8;obtain rfl:=Option.some.inj e9;have k0:=row6 t0;have k1:=row6 t1;have k2:=row6 t2;have k3:=row6 t3;have k4:=row6 t4;have k5:=row6 t5;have k6:=row6 t6;have k7:=row6 t7;have k8:=row6 t8;have k9:=row6 t9;clear t0 e0 t1 e1 t2 e2 t3 e3 t4 e4 t5 e5 t6 e6 t7 e7 t8 e8 t9 e9 h4 h1 h2 h3 h;obtain⟨l⟩:=cs;simp only at hlen k0 k1 k2 k3 k4 k5 k6 k7 k8 k9
 have e:l=l.take 6++((l.drop 6).take 6++((l.drop 12).take 6++((l.drop 18).take 6++((l.drop 24).take 6++((l.drop 30).take 6++((l.drop 36).take 6++((l.drop 42).take 6++((l.drop 48).take 6++(l.drop 54).take 6)))))))):=by
  have a9:(l.drop 54).take 6=l.drop 54:=List.take_of_length_le (by simp;omega);have b9:l.drop 54=(l.drop 48).drop 6:=by simp
  have b8:l.drop 48=(l.drop 42).drop 6:=by simp
  have b7:l.drop 42=(l.drop 36).drop 6:=by simp
  have b6:l.drop 36=(l.drop 30).drop 6:=by simp
  have b5:l.drop 30=(l.drop 24).drop 6:=by simp
  have b4:l.drop 24=(l.drop 18).drop 6:=by simp
  have b3:l.drop 18=(l.drop 12).drop 6:=by simp
  have b2:l.drop 12=(l.drop 6).drop 6:=by simp
  rw[a9,b9,List.take_append_drop,b8,List.take_append_drop,b7,List.take_append_drop,b6,List.take_append_drop,b5,List.take_append_drop,b4,List.take_append_drop,b3,List.take_append_drop,b2,List.take_append_drop,List.take_append_drop]
 simp at k0 k1 k2 k3 k4 k5 k6 k7 k8 k9
 rw[k0,k1,k2,k3,k4,k5,k6,k7,k8,k9]at e;rw[e]
 rfl

theorem wds_of_laid {W:World}(h:laidMetH Tryz.prog Rows.fnFastRow.laid W):
 W.var? Tryz.prog "loop.example/s01493/impl.numberWords" =some wdsC:=by
 rw[MakeChecks.laidMetH_plain _ _ _ (by kernel_rfl)]at h;obtain⟨g,t,cs,fuel,p,h1,h2,h3,h4⟩:=Lib.laidMet.reads h (.tail _ (.tail _ (.tail _ (.head _))));obtain rfl:=Option.some.inj (Tryz.gWds.symm.trans h1);obtain rfl:=Option.some.inj (Tryz.gWdsType.symm.trans h2);rw[h3]
 have hlen:cs.toList.length=6:=by
  obtain⟨xs,m,rfl,hx,hl,hn,hel⟩:=DataW.trod_array Tryz.underlying189 h4;rw[hl,Tryz.cellsWds]
 obtain⟨f0,d0,q0,e0,t0⟩:=Lib.array_elem Tryz.underlying189 h4 0 (by decide);obtain⟨f1,d1,q1,e1,t1⟩:=Lib.array_elem Tryz.underlying189 h4 1 (by decide);obtain⟨f2,d2,q2,e2,t2⟩:=Lib.array_elem Tryz.underlying189 h4 2 (by decide);rw[Tryz.cellsWord]at t0 t1 t2;obtain rfl:=Option.some.inj e0;obtain rfl:=Option.some.inj e1;obtain rfl:=Option.some.inj e2;have k0:=word2 (s:=⟨#[105,110,102]⟩) t0;have k1:=word2 (s:=⟨#[105,110,102,105,110,105,116,121]⟩) t1;have k2:=word2 (s:=⟨#[110,97,110]⟩) t2;clear t0 t1 t2 h4 h1 h2 h3 h e0 e1 e2;obtain⟨l⟩:=cs;simp only at hlen k0 k1 k2
 have e:l=l.take 2++((l.drop 2).take 2++(l.drop 4).take 2):=by
  have a1:(l.drop 4).take 2=l.drop 4:=List.take_of_length_le (by simp;omega);have a2:l.drop 4=(l.drop 2).drop 2:=by simp
  rw[a1,a2,List.take_append_drop,List.take_append_drop]
 simp at k0 k1 k2
 rw[k0,k1,k2]at e;rw[e]
 rfl

theorem folC_get (st so:Nat)(h1:st<10)(h2:so<6):folC[st*6+so]? =some (.int .i64 (M.next st so:Int)):=by
 rcases(show st=0\/st=1\/st=2\/st=3\/st=4\/st=5\/st=6\/st=7\/st=8\/st=9 by omega)with rfl|rfl|rfl|rfl|rfl|rfl|rfl|rfl|rfl|rfl<;>
  rcases(show so=0\/so=1\/so=2\/so=3\/so=4\/so=5 by omega)with rfl|rfl|rfl|rfl|rfl|rfl<;>rfl

theorem fol_of_var {W:World}(h:W.var? Tryz.prog "loop.example/s01493/impl.follows" =some folC):Fol W:=by
 have hc:=fun i=>World.var?_cell Tryz.gFol h i
 exact⟨World.block_lt_of_cell? W ⟨1,0,none⟩ (hc 0),fun st so h1 h2=>(hc _).trans (folC_get st so h1 h2)⟩

theorem wds_of_var {W:World}(h:W.var? Tryz.prog "loop.example/s01493/impl.numberWords" =some wdsC):Wds W:=by
 have hc:=fun i=>World.var?_cell Tryz.gWds h i
 exact⟨World.block_lt_of_cell? W ⟨2,0,none⟩ (hc 0),hc 0,hc 1,hc 2,hc 3,hc 4,hc 5⟩

theorem fol_reads {H:Type}(enc:TypeId×Value->H)(W:World)(sp:Nat->Bool)(held:Bool):
 DataW.trod enc Tryz.prog W 0 sp held 8 163 folC.toList=some (Rows.laid_loop_example_s01493_impl_follows,[]):=by kernel_rfl

theorem wds_reads {H:Type}(enc:TypeId×Value->H)(W:World)(sp:Nat->Bool)(held:Bool):
 DataW.trod enc Tryz.prog W 0 sp held 8 189 wdsC.toList=some (Rows.laid_loop_example_s01493_impl_numberWords,[]):=by kernel_rfl

theorem folv_below {W W':World}(h:W.var? Tryz.prog "loop.example/s01493/impl.follows" =some folC)(hb:Below W.heap.size W W'):W'.var? Tryz.prog "loop.example/s01493/impl.follows" =some folC:=by
 have hlt:=(fol_of_var h).1;unfold World.var? at h|-;simp only[Tryz.gFol,Option.bind_some]at h|-;rw[hb.block 1 hlt];exact h

theorem wdsv_below {W W':World}(h:W.var? Tryz.prog "loop.example/s01493/impl.numberWords" =some wdsC)(hb:Below W.heap.size W W'):W'.var? Tryz.prog "loop.example/s01493/impl.numberWords" =some wdsC:=by
 have hlt:=(wds_of_var h).1;unfold World.var? at h|-;simp only[Tryz.gWds,Option.bind_some]at h|-;rw[hb.block 2 hlt];exact h

theorem all_vars {H:Type}(enc:TypeId×Value->H){W:World}(h0:W.var? Tryz.prog "loop.example/s01493/impl.formats" =some fmtC)(h:W.var? Tryz.prog "loop.example/s01493/impl.follows" =some folC)(h2:W.var? Tryz.prog "loop.example/s01493/impl.numberWords" =some wdsC)(sp:Nat->Bool):
 DataW.TrodVars enc Tryz.prog W sp ["loop.example/s01493/impl.formats", "loop.example/s01493/impl.follows", "loop.example/s01493/impl.numberWords"] [Rows.laid_loop_example_s01493_impl_formats,Rows.laid_loop_example_s01493_impl_follows,Rows.laid_loop_example_s01493_impl_numberWords] (MemPlace.row ⟨0,0,none⟩ 24++[]++(MemPlace.row ⟨1,0,none⟩ 60++[]++(MemPlace.row ⟨2,0,none⟩ 6++[]++[]))):=
 ⟨0,94,fmtC,8,[],_,Tryz.gFmt,Tryz.gFmtType,h0,fmt_reads enc W sp true,⟨1,163,folC,8,[],_,Tryz.gFol,Tryz.gFolType,h,fol_reads enc W sp true,⟨2,189,wdsC,8,[],[],Tryz.gWds,Tryz.gWdsType,h2,wds_reads enc W sp true,rfl,rfl⟩,rfl⟩,rfl⟩

noncomputable def laidWorld (os:Os):World:=
 let w0:=World.holding Tryz.prog os ⟨#[],#[],[]⟩
 let put (h:Array Obj) (g:Nat) (cs:Array Value):Array Obj:=h.modify g fun
  | .cells _ t frozen=> .cells cs t frozen
  |o=>o
 { w0 with heap:=put (put (put (put (put w0.heap 0 fmtC) 1 folC) 2 wdsC) 6 accC) 5 fstC }

end Go.Proofs.YtfdgkleoaehjaaaGreatDoor
