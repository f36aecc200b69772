import Derived.Test.YtnjiinbhbjpfkaaGreatDoorStpM
set_option maxRecDepth 100000
set_option maxHeartbeats 0
set_option linter.all false
namespace Go.Proofs.YtnjiinbhbjpfkaaGreatDoor
open Go.RowKit Go.Proofs.Tryz
namespace F
def kK(f:Fb)(M:Nat->List B.V)(x y:B.V):Prop:=x.1≠0/\f.k x.1=0/\y.1=0/\0<=y.2/\y.2<((M x.1).length:Int)
def gI(f:Fb)(x y:B.V):Nat:=if x.1=0\/f.k x.1≠0 then 2 else if y.1≠0 then 1 else 3
theorem sv(f:Fb)(x y:B.V):1<=gI f x y/\gI f x y<=3:=by unfold gI;split;omega;split<;>omega
def FM(f:Fb)(M:Nat->List B.V)(x y:B.V)(v:Value):Prop:=
 (kK f M x y/\v=.tuple #[.int .i64 y.2,.int .i64 0])\/(¬kK f M x y/\v=.tuple #[.int .i64 0,.int .i64 (gI f x y)])
theorem wN(op a b c fb tb eb sb pb n:Nat)(x y:B.V)(kd:B.Kd)(vb:Vs)(M:Nat->List B.V)(w:World)(hS:jm w sb pb eb n kd vb M)(hn:n<=200)(hx:B.qO kd.on n x)(aE:w.cell? ⟨eb,27,none⟩=some (P0 sb))(le:eb<w.heap.size): Calls prog 158 #[dZ op a b c fb tb eb,vA x,vA y] w λe w'=>∃v,e=.returned v/\w.grownBy w' none/\FM vb.f M x y v:=by
 have KS:=az hS;have HX:=az hx;obtain⟨u,G⟩:=y;have a2:x.1≠0->(M x.1).length<=8:=λh0=>by
  rcases hx with h|h
  .exact ch h h0
  exact hS.p.l _ h.2.2.1
 clear hS hx;go_in;go_wp2_with fail
 generalize hW:((w.alloc (.cells #[.int .u8 (op:Int),.int .u8 (a:Int),.int .u8 (b:Int),.int .u8 (c:Int),P0 fb,P0 tb,P0 eb] 186)).alloc (.cells #[.int .i64 (x.1:Int),.int .i64 x.2] 149)).alloc (.cells #[.int .i64 (u:Int),.int .i64 G] 149)=w1;have a0:Hid (w.grownBy w1 none):=by rw[<-hW];exact au (au (ah _ _ _) _) _
 have a1:w1.heap[w.heap.size]? = some (lZ op a b c fb tb eb):=by rw[<-hW,ak _ _ _ (by simp;omega),ak _ _ _ (by simp)];exact bf w _
 have Y:w1.heap[w.heap.size+1]? = some (.cells #[.int .i64 (x.1:Int),.int .i64 x.2] 149 (0,0)):=by
  rw[<-hW,ak _ _ _ (by simp)];have:=bf (w.alloc (.cells #[.int .u8 (op:Int),.int .u8 (a:Int),.int .u8 (b:Int),.int .u8 (c:Int),P0 fb,P0 tb,P0 eb] 186)) (.cells #[.int .i64 (x.1:Int),.int .i64 x.2] 149);simpa using this
 have o:w1.heap[w.heap.size+1+1]? = some (.cells #[.int .i64 (u:Int),.int .i64 G] 149 (0,0)):=by
  rw[<-hW];have:=bf ((w.alloc (.cells #[.int .u8 (op:Int),.int .u8 (a:Int),.int .u8 (b:Int),.int .u8 (c:Int),P0 fb,P0 tb,P0 eb] 186)).alloc (.cells #[.int .i64 (x.1:Int),.int .i64 x.2] 149)) (.cells #[.int .i64 (u:Int),.int .i64 G] 149);simpa using this
 clear hW;have H3:=az o;have x6:=(fk a1).2.2.2.2.2.2;have c0:w1.cell? ⟨w.heap.size+1,0,none⟩=some (.int .i64 (x.1:Int)):=by simp[World.cell?,Y]
 have c1:w1.cell? ⟨w.heap.size+1,1,none⟩=some (.int .i64 x.2):=by simp[World.cell?,Y]
 obtain⟨a4,_⟩:=bh a0.out (a:=⟨eb,27,none⟩) le;rw[aE]at a4;have aB:=bz a1;have a9:=bz Y;have aM:=bz o;have aG:eb<w1.heap.size:=by omega
 clear a1 Y o;have HS:Hid (∀w':World,w1.grownBy w' none->w'.cell? ⟨w.heap.size,6,none⟩=some (P0 eb)/\w'.cell? ⟨eb,27,none⟩=some (P0 sb)/\w'.cell? ⟨w.heap.size+1,0,none⟩=some (.int .i64 (x.1:Int))/\w'.cell? ⟨w.heap.size+1,1,none⟩=some (.int .i64 x.2)):=
  λw' hg=>⟨(bh hg (a:=⟨w.heap.size,6,none⟩) aB).1.trans x6,(bh hg (a:=⟨eb,27,none⟩) aG).1.trans a4,(bh hg (a:=⟨w.heap.size+1,0,none⟩) a9).1.trans c0,(bh hg (a:=⟨w.heap.size+1,1,none⟩) a9).1.trans c1⟩
 go_region_held3 (λw'=>w'.cell? ⟨w.heap.size,6,none⟩=some (P0 eb)/\w'.cell? ⟨eb,27,none⟩=some (P0 sb)/\w'.cell? ⟨w.heap.size+1,0,none⟩=some (.int .i64 (x.1:Int))/\w'.cell? ⟨w.heap.size+1,1,none⟩=some (.int .i64 x.2)) (first|exact HS.out _ (bq (ax _ _))|exact HS.out _ a3.out) (first|(go_at_call 200;refine(AP sb pb eb n x kd vb M w1.drew (KS.out.kept (bq a0.out)) hn HX.out).mono ?_;rintro e w2 ⟨J,hc⟩;have a3:Hid (w1.grownBy w2 none):=⟨J.os,J.tape,J.output,J.size,J.block⟩;obtain⟨n2,ob,rfl,a7⟩:∃(n2:Int) (ob:Bool),e=.returned (.tuple #[.int .i64 n2,.bool ob])/\(((x.1=0\/vb.f.k x.1≠0)/\ob=false)\/((x.1≠0/\vb.f.k x.1=0)/\ob=true/\n2=((M x.1).length:Int))):=(by unfold nA at hc;split at hc;exact⟨_,_,hc,ag ⟨(by assumption),rfl⟩⟩;exact⟨_,_,hc,ab ⟨⟨λh=>(by rename_i hh;exact hh (ag h)),(by rename_i hh;exact Classical.byContradiction λh=>hh (ab h))⟩,rfl,rfl⟩⟩);have aC:=az a7;clear hc a7 J))
 all_goals
  have o:=dp a3.out H3.out;have e0:w2.cell? ⟨w.heap.size+1+1,0,none⟩=some (.int .i64 (u:Int)):=by simp[World.cell?,o]
  have e1:w2.cell? ⟨w.heap.size+1+1,1,none⟩=some (.int .i64 G):=by simp[World.cell?,o]
  have a6:=az (an a0.out a3.out);clear o x6 c0 c1 a4;rcases aC.out with⟨h1,rfl⟩|⟨h1,rfl,rfl⟩
  .have H:=az (show ¬kK vb.f M x (u,G)/\gI vb.f x (u,G)=2 from⟨λh=>h1.elim h.1 (λg=>g h.2.1),by unfold gI;rw[aj h1]⟩);clear h1 a2;go_wp2_with fail
   go_ret2
   exact⟨_,rfl,a6.out,ab ⟨H.out.1,by rw[H.out.2];rfl⟩⟩
  have hl:=a2 h1.1;have H1:=az h1;clear a2 h1;go_wp2_with fail
  refine(ft (u,G) _).mono ?_;rintro e w3 ⟨rfl,a5⟩;have Z:=az (an a6.out a5);clear a5 e0 e1;generalize aA:(M x.1).length=ln at *;have a8:=az aA;clear aA;by_cases W:u=0
  .have hd:decide (u=0)=true:=by simpa using W
   simp only[hd];by_cases h0:G<0
   .have H:=az (show ¬kK vb.f M x (u,G)/\gI vb.f x (u,G)=3 from⟨λh=>by have:(0:Int)<=G:=h.2.2.2.1;omega,by unfold gI;rw[aa (λg=>g.elim H1.out.1 (λg=>g H1.out.2)),aa (λg=>g W)]⟩)
    clear W hd;go_wp2_with fail
    go_ret2
    exact⟨_,rfl,Z.out,ab ⟨H.out.1,by rw[H.out.2];rfl⟩⟩
   obtain⟨i,hi⟩:∃i:Nat,G=i:=⟨G.toNat,by omega⟩;subst hi;by_cases aJ:i<ln
   .have H:=az (show kK vb.f M x (u,(i:Int)) from⟨H1.out.1,H1.out.2,W,by show(0:Int)<=(i:Int);omega,by show(i:Int)<_;rw[a8.out];omega⟩)
    have aF:decide ((i:Int)<0)=false:=by simp
    clear W hd h0;go_wp2_with fail
    go_ret2
    exact⟨_,rfl,Z.out,ag ⟨H.out,rfl⟩⟩
   have H:=az (show ¬kK vb.f M x (u,(i:Int))/\gI vb.f x (u,(i:Int))=3 from⟨λh=>by have:(i:Int)<_:=h.2.2.2.2;rw[a8.out]at this;omega,by unfold gI;rw[aa (λg=>g.elim H1.out.1 (λg=>g H1.out.2)),aa (λg=>g W)]⟩)
   have aF:decide ((i:Int)<0)=false:=by simp
   have aH:(ln:Int)<=(i:Int):=by omega
   clear W hd h0;go_wp2_with fail
   go_ret2
   exact⟨_,rfl,Z.out,ab ⟨H.out.1,by rw[H.out.2];rfl⟩⟩
  have hd:decide (u=0)=false:=by simpa using W
  simp only[hd];have H:=az (show ¬kK vb.f M x (u,G)/\gI vb.f x (u,G)=1 from⟨λh=>W h.2.2.1,by unfold gI;rw[aa (λg=>g.elim H1.out.1 (λg=>g H1.out.2)),aj W]⟩);clear W hd;go_wp2_with fail
  go_ret2
  exact⟨_,rfl,Z.out,ab ⟨H.out.1,by rw[H.out.2];rfl⟩⟩
theorem BF(op a b c fb tb eb cb L nx rb nr sb pb n:Nat)(back:Value)(kd:B.Kd)(vb:Vs)(R:Nat->B.V)(M:Nat->List B.V)(w:World)(hF:Fr w fb cb L nx rb nr back R)(hS:jm w sb pb eb n kd vb M)(hV:∀i,i<nr->B.qO kd.on n (R i))(hn:n<=200)(ha:a<nr)(hb:b<nr)(hc:c<nr)(aE:w.cell? ⟨eb,27,none⟩=some (P0 sb))(le:eb<w.heap.size)(aG:eb≠rb): Calls prog 101 #[dZ op a b c fb tb eb] w λe w'=>(kK vb.f M (R b) (R c)/\e=.returned (.int .i64 0)/\w.grownBy w' (some rb)/\Fr w' fb cb L nx rb nr back (B.set R a ((M (R b).1).getD (R c).2.toNat (0,0))))\/(¬kK vb.f M (R b) (R c)/\e=.returned (.int .i64 (gI vb.f (R b) (R c)))/\w.grownBy w' none):=by
 have KF:=az hF;have KS:=az hS;have HV:=az hV;have aQ:Hid (eb≠rb):=aG;clear hF hS hV aG;go_in;go_wp2_with fail
 have aB:=az (jf w op a b c fb tb eb);have a9:=az (ah w (.cells #[.int .u8 (op:Int),.int .u8 (a:Int),.int .u8 (b:Int),.int .u8 (c:Int),P0 fb,P0 tb,P0 eb] 186) none);generalize hW:w.alloc (.cells #[.int .u8 (op:Int),.int .u8 (a:Int),.int .u8 (b:Int),.int .u8 (c:Int),P0 fb,P0 tb,P0 eb] 186)=w1 at *;have b0:w1.heap.size=w.heap.size+1:=by rw[<-hW];simp
 clear hW;go_region_held3 (λw'=>w'.cell? ⟨w.heap.size,0,none⟩=some (.int .u8 (op:Int))/\w'.cell? ⟨w.heap.size,1,none⟩=some (.int .u8 (a:Int))/\w'.cell? ⟨w.heap.size,2,none⟩=some (.int .u8 (b:Int))/\w'.cell? ⟨w.heap.size,3,none⟩=some (.int .u8 (c:Int))/\w'.cell? ⟨w.heap.size,4,none⟩=some (P0 fb)/\w'.cell? ⟨w.heap.size,5,none⟩=some (P0 tb)/\w'.cell? ⟨w.heap.size,6,none⟩=some (P0 eb)) (first|exact fk aB.out|exact fk aL.out|exact fk aK.out|exact fk a6.out) (first|(go_at_call 86;refine(pO op a b c fb tb eb cb L nx rb nr back R w1.drew (KF.out.kept (bq a9.out)).1 (KF.out.kept (bq a9.out)).2.1 hb).mono ?_;rintro e w2 ⟨rfl,a8⟩;have a4:=az (an (bq a9.out) a8);have aL:=az (dp a8 (show w1.drew.heap[w.heap.size]? = _ from aB.out));clear a8)|(go_at_call 94;refine(qJ op a b c fb tb eb cb L nx rb nr back R w2 (KF.out.kept a4.out).1 (KF.out.kept a4.out).2.1 hc).mono ?_;rintro e w3 ⟨rfl,a1⟩;have Y:=az (an a4.out a1);have aK:=az (dp a1 aL.out);clear a1)|(go_at_call 158;refine(wN op a b c fb tb eb sb pb n (R b) (R c) kd vb M w3 (KS.out.kept Y.out) hn (HV.out b hb) ((bh Y.out (a:=⟨eb,27,none⟩) le).1.trans aE) (dm le Y.out.size)).mono ?_;rintro e w4 ⟨v,rfl,a5,a2⟩;have G:=az (an Y.out a5);have a6:=az (dp a5 aK.out);obtain⟨pv,wy,rfl⟩:∃(pv:Value) (wy:Int),v=.tuple #[pv,.int .i64 wy]:=(by rcases a2 with⟨_,h⟩|⟨_,h⟩;exact⟨_,_,h⟩;exact⟨_,_,h⟩);have aR:=az a2;clear a5 a2))
 all_goals
  rcases aR.out with⟨H,he⟩|⟨H,he⟩
  .have aA:=az H;obtain⟨o1,ok,o2,o3,o4⟩:=id H;have hp:1<=(R b).1/\(R b).1<=n/\kd.on (R b).1=true:=by
    rcases HV.out b hb with h|h
    .exact ch h o1
    exact⟨h.1,h.2.1,h.2.2.1⟩
   injection he with he;injection he with he;injection he with a7 o;injection o with o _;injection o with _ o;subst a7 o;obtain⟨i,hi⟩:∃i:Nat,(R c).2=(i:Int):=⟨(R c).2.toNat,by omega⟩;obtain⟨k,hk⟩:∃k,(R b).1=k+1:=⟨(R b).1-1,by omega⟩;have aM:i<(M (k+1)).length:=by rw[hi,hk]at o4;omega
   have aD:∀w':World,w.grownBy w' none->Calls prog 159 #[P0 sb,vA (R b),.int .i64 (R c).2] w' λe w''=>e=.returned (vA ((M (R b).1).getD (R c).2.toNat (0,0)))/\w'.grownBy w'' none:=by
    intro w' hg;have e1:R b=(k+1,(R b).2):=fV hk rfl;rw[hk,hi];have:=yt sb pb eb n k i (R b).2 kd vb M w' (KS.out.kept hg) hn (by omega) (by rw[<-hk];exact hp.2.2) aM;rw[<-e1]at this;exact this
   have aS:=az aD;generalize a0:(M (R b).1).getD (R c).2.toNat (0,0)=aU at *;have aC:=az a0;generalize aJ:(R c).2=yy at *;have aN:=az aJ;clear aJ;clear H ok o1 o2 o3 o4 hp hi hk aM aD a0;have W:=az (KF.out.kept G.out);obtain⟨x0,x1,x2,x3,x4,x5,x6⟩:=fk a6.out;have lx:=bz a6.out;have u:w.heap.size≠rb:=by have:=KF.out.2.1.lt;omega
   have aT:eb≠rb:=by have:=aQ.out;exact this
   have HS:Hid (∀w':World,dy (λk=>k=rb) w4 w'->(w'.cell? ⟨w.heap.size,0,none⟩=some (.int .u8 (op:Int))/\w'.cell? ⟨w.heap.size,1,none⟩=some (.int .u8 (a:Int))/\w'.cell? ⟨w.heap.size,2,none⟩=some (.int .u8 (b:Int))/\w'.cell? ⟨w.heap.size,3,none⟩=some (.int .u8 (c:Int))/\w'.cell? ⟨w.heap.size,4,none⟩=some (P0 fb)/\w'.cell? ⟨w.heap.size,5,none⟩=some (P0 tb)/\w'.cell? ⟨w.heap.size,6,none⟩=some (P0 eb)/\w'.cell? ⟨eb,27,none⟩=some (P0 sb))):=
    λw' hO=>⟨(hO.cell lx u).trans x0,(hO.cell lx u).trans x1,(hO.cell lx u).trans x2,(hO.cell lx u).trans x3,(hO.cell lx u).trans x4,(hO.cell lx u).trans x5,(hO.cell lx u).trans x6,(hO.cell (by omega) aT).trans ((bh G.out (a:=⟨eb,27,none⟩) le).1.trans aE)⟩
   have aO:=az (HS.out w4.drew (dk _ _));go_wp2_with fail
   go_region_held3 (λw'=>w'.cell? ⟨w.heap.size,0,none⟩=some (.int .u8 (op:Int))/\w'.cell? ⟨w.heap.size,1,none⟩=some (.int .u8 (a:Int))/\w'.cell? ⟨w.heap.size,2,none⟩=some (.int .u8 (b:Int))/\w'.cell? ⟨w.heap.size,3,none⟩=some (.int .u8 (c:Int))/\w'.cell? ⟨w.heap.size,4,none⟩=some (P0 fb)/\w'.cell? ⟨w.heap.size,5,none⟩=some (P0 tb)/\w'.cell? ⟨w.heap.size,6,none⟩=some (P0 eb)/\w'.cell? ⟨eb,27,none⟩=some (P0 sb)) (first|exact aO.out|exact aW.out|exact aY.out|exact aV.out) (first|(go_at_call 86;refine(pO op a b c fb tb eb cb L nx rb nr back R w4.drew (W.out.kept (bq (ax _ _))).1 (W.out.kept (bq (ax _ _))).2.1 hb).mono ?_;rintro e w5 ⟨rfl,y⟩;have a3:Hid (w4.grownBy w5 none):=⟨y.os,y.tape,y.output,y.size,y.block⟩;have aW:=az (HS.out w5 (dU a3.out));clear y)|(go_at_call 159;refine(aS.out w5 (an G.out a3.out)).mono ?_;rintro e w6 ⟨rfl,aI⟩;have J:=az (an a3.out aI);have aY:=az (HS.out w6 (dU J.out));clear aI)|(go_at_call 149;refine(js op a b c fb tb eb cb L nx rb nr back R aU w6 (W.out.kept J.out).1 (W.out.kept J.out).2.1 ha).mono ?_;rintro e w7 ⟨rfl,Z,aH⟩;have aV:=az (HS.out w7 ((dU (S:=λk=>k=rb) J.out).then Z (ag rfl)));have HR:=az (ay (an (eD (an G.out J.out)) Z) (ay (cm Z (W.out.kept J.out).1 (by intro e;injection e with e;exact KF.out.2.2 e)) aH));clear Z aH))
   all_goals
    go_wp2_with fail
    go_ret;exact ag ⟨aA.out,rfl,HR.out.1,HR.out.2.1,by rw[aN.out,aC.out];exact HR.out.2.2,KF.out.2.2⟩
  have aX:=sv vb.f (R b) (R c);generalize aF:gI vb.f (R b) (R c)=why at *;have aP:=az aF;injection he with he;injection he with he;injection he with a7 o;injection o with o _;injection o with _ o;subst a7 o;have aA:=az H;have aZ:¬((why:Int)=0):=by omega
  clear H aF aX;go_wp2_with fail
  go_ret;exact ab ⟨aA.out,by rw[aP.out];rfl,G.out⟩
end F
section
def pN(ok:Bool)(m:Nat):Int:=if ok=false then 4 else if m=20 then 5 else 0
theorem JS(op a b c fb tb eb sb m ck ff:Nat)(x y i:B.V)(ok:Bool)(ao:Option Addr)(R:World->Prop)(w:World)(hb:∀w1,w.grownBy w1 none->Calls prog 86 #[dZ op a b c fb tb eb] w1 λe w'=>e=.returned (vA x)/\w1.grownBy w' none)(hf:∀w1,w.grownBy w1 none->Calls prog 162 #[P0 sb,vA x] w1 λe w'=>e=.returned (.tuple #[.int .i64 ff,vA i,.bool ok])/\w1.grownBy w' none)(hc:∀w1,w.grownBy w1 none->Calls prog 94 #[dZ op a b c fb tb eb] w1 λe w'=>e=.returned (vA y)/\w1.grownBy w' none)(he:ok=true->m≠20->∀w1,w.grownBy w1 none->Calls prog 119 #[P0 eb,P0 tb,.int .i64 ff,vA y,vA i,.func (.func 149) #[dZ op a b c fb tb eb] #[]] w1 λe w'=>e=.returned (.tuple #[])/\R w'/\∀k,w.heap.size<=k->k<w1.heap.size->w'.heap[k]? = w1.heap[k]?)(h0:∀w1,w.grownBy w1 none->(ok=false\/m=20)->R w1)(aB:w.cell? ⟨eb,27,none⟩=some (P0 sb))(c1:w.cell? ⟨tb,1,none⟩=some (.slice ao m ck)): Calls prog 104 #[dZ op a b c fb tb eb] w λe w'=>e=.returned (.int .i64 (pN ok m))/\R w':=by
 have HB:=az hb;have HF:=az hf;have HC:=az hc;have HE:=az he;have H0:=az h0;have le:=gW aB;have lt:=gW c1;clear hb hf hc he h0;go_in;go_wp2_with fail
 have a8:=az (jf w op a b c fb tb eb);have a5:=az (ah w (.cells #[.int .u8 op,.int .u8 a,.int .u8 b,.int .u8 c,P0 fb,P0 tb,P0 eb] 186) none);generalize hW:w.alloc (.cells #[.int .u8 op,.int .u8 a,.int .u8 b,.int .u8 c,P0 fb,P0 tb,P0 eb] 186)=w1 at *;have aL:Hid (w1.heap.size=w.heap.size+1):=by show _=_;rw[<-hW];simp
 clear hW;have HK:Hid (∀w',w.grownBy w' none->w'.heap[w.heap.size]? = some (lZ op a b c fb tb eb)->w'.cell? ⟨w.heap.size,0,none⟩=some (.int .u8 op)/\w'.cell? ⟨w.heap.size,1,none⟩=some (.int .u8 a)/\w'.cell? ⟨w.heap.size,2,none⟩=some (.int .u8 b)/\w'.cell? ⟨w.heap.size,3,none⟩=some (.int .u8 c)/\w'.cell? ⟨w.heap.size,4,none⟩=some (P0 fb)/\w'.cell? ⟨w.heap.size,5,none⟩=some (P0 tb)/\w'.cell? ⟨w.heap.size,6,none⟩=some (P0 eb)/\w'.cell? ⟨eb,27,none⟩=some (P0 sb)):=λw' hg hx=>by
  obtain⟨x0,x1,x2,x3,x4,x5,x6⟩:=fk hx;exact⟨x0,x1,x2,x3,x4,x5,x6,(bh hg (a:=⟨eb,27,none⟩) le).1.trans aB⟩
 have a4:Hid (∀(w':World) (B:Nat) (u v:Value),w.grownBy w' none->w'.heap[w.heap.size]? = some (lZ op a b c fb tb eb)->w.heap.size<B->w.grownBy ((w'.setCell ⟨B,0,none⟩ u).setCell ⟨B,1,none⟩ v) none/\((w'.setCell ⟨B,0,none⟩ u).setCell ⟨B,1,none⟩ v).heap[w.heap.size]? = some (lZ op a b c fb tb eb)):=λw' B u v hg hx hB=>
  ⟨bp (bp hg (ab (mU hB)) _) (ab (mU hB)) _,((af _ _ _ _ (Nat.ne_of_lt hB)).trans (af _ _ _ _ (Nat.ne_of_lt hB))).trans hx⟩
 have aE:Hid (∀(w':World) (B:Nat) (u v:Value) (hg:w.grownBy w' none) (hx:w'.heap[w.heap.size]? = some (lZ op a b c fb tb eb)) (hB:w.heap.size<B),_):=λw' B u v hg hx hB=>HK _ (a4 w' B u v hg hx hB).1 (a4 w' B u v hg hx hB).2;have HZ:Hid (∀(w':World) (o:Obj) (k:Nat) (o':Obj),w'.heap[k]? = some o'->(w'.alloc o).heap[k]? = some o'):=λw' o k o' hk=>by
  rw[ak _ _ _ (bz hk)];exact hk
 go_region_held3 (λw'=>w'.cell? ⟨w.heap.size,0,none⟩=some (.int .u8 op)/\w'.cell? ⟨w.heap.size,1,none⟩=some (.int .u8 a)/\w'.cell? ⟨w.heap.size,2,none⟩=some (.int .u8 b)/\w'.cell? ⟨w.heap.size,3,none⟩=some (.int .u8 c)/\w'.cell? ⟨w.heap.size,4,none⟩=some (P0 fb)/\w'.cell? ⟨w.heap.size,5,none⟩=some (P0 tb)/\w'.cell? ⟨w.heap.size,6,none⟩=some (P0 eb)/\w'.cell? ⟨eb,27,none⟩=some (P0 sb)) (first|exact HK _ (bq a5) a8|exact HK _ (au (bq a5) _) (HZ _ _ _ _ a8)|exact HK _ a0 a3|exact HK _ (au a0 _) (HZ _ _ _ _ a3)|exact HK _ W Y|exact HK _ (au W _) (HZ _ _ _ _ Y)|exact aE G _ _ _ W Y a1|exact aE _ _ _ _ (au W _) (HZ _ _ _ _ Y) (bz Y)) (first|(go_at_call 86;refine(HB w1.drew (bq a5)).mono ?_;rintro e w2 ⟨rfl,a2⟩;have a0:Hid (w.grownBy w2 none):=an (bq a5) a2;have a3:=az (dp a2 (show w1.drew.heap[w.heap.size]? = _ from a8));clear a2)|(go_at_call 86;refine(HB (w1.drew.alloc (.cells #[.int .i64 0,.int .i64 0] 149)) (au (bq a5) _)).mono ?_;rintro e w2 ⟨rfl,a2⟩;have a0:Hid (w.grownBy w2 none):=an (au (bq a5) _) a2;have a3:=az (dp a2 (HZ w1.drew _ _ _ a8));have aC:Hid (w2.heap[w1.heap.size]? = some (.cells #[.int .i64 0,.int .i64 0] 149 (0,0))):=dp a2 (bf w1.drew _);clear a2)|(go_at_call 162;refine(HF w2 a0).mono ?_;rintro e G ⟨rfl,J⟩;have W:Hid (w.grownBy G none):=an a0 J;have Y:=az (dp J a3);have H:=dp J aC;have a1:Hid (w.heap.size<w1.heap.size):=(by show _<_;rw[aL.out];omega);have r0:G.cell? ⟨w1.heap.size,0,none⟩=some (.int .i64 0):=(by simp[World.cell?,H]);have r1:G.cell? ⟨w1.heap.size,1,none⟩=some (.int .i64 0):=(by simp[World.cell?,H]);have r2:G.frozen? ⟨w1.heap.size,0,none⟩=false:=(by simp[World.frozen?,H]);have r3:G.frozen? ⟨w1.heap.size,1,none⟩=false:=(by simp[World.frozen?,H]);have lB:=bz H;clear H;clear J)|(go_at_call 162;refine(HF w2 a0).mono ?_;rintro e G ⟨rfl,J⟩;have W:Hid (w.grownBy G none):=an a0 J;have Y:=az (dp J a3);clear J)|(go_at_call 162;refine(HF (w2.alloc (.cells #[.int .i64 0,.int .i64 0] 149)) (au a0 _)).mono ?_;rintro e G ⟨rfl,J⟩;have W:Hid (w.grownBy G none):=an (au a0 _) J;have Y:=az (dp J (HZ w2 _ _ _ a3));have H:G.heap[w2.heap.size]? = some (.cells #[.int .i64 0,.int .i64 0] 149 (0,0)):=dp J (bf w2 _);have a1:Hid (w.heap.size<w2.heap.size):=bz a3;have r0:G.cell? ⟨w2.heap.size,0,none⟩=some (.int .i64 0):=(by simp[World.cell?,H]);have r1:G.cell? ⟨w2.heap.size,1,none⟩=some (.int .i64 0):=(by simp[World.cell?,H]);have r2:G.frozen? ⟨w2.heap.size,0,none⟩=false:=(by simp[World.frozen?,H]);have r3:G.frozen? ⟨w2.heap.size,1,none⟩=false:=(by simp[World.frozen?,H]);have lB:=bz H;clear H;clear J))
 all_goals
  first
  |rename_i hh
   clear hh;have Z:Hid (w.grownBy (((G.setCell ⟨w2.heap.size,0,none⟩ (.int .i64 i.1)).setCell ⟨w2.heap.size,1,none⟩ (.int .i64 i.2))) none):=(a4 G _ _ _ W Y a1).1;have a7:Hid ((((G.setCell ⟨w2.heap.size,0,none⟩ (.int .i64 i.1)).setCell ⟨w2.heap.size,1,none⟩ (.int .i64 i.2))).heap[w.heap.size]? = some (lZ op a b c fb tb eb)):=(a4 G _ _ _ W Y a1).2;have u0:(((G.setCell ⟨w2.heap.size,0,none⟩ (.int .i64 i.1)).setCell ⟨w2.heap.size,1,none⟩ (.int .i64 i.2))).cell? ⟨w2.heap.size,0,none⟩=some (.int .i64 i.1):=by simp[go_sem,r0,r1,r2,r3,lB]
   have u1:(((G.setCell ⟨w2.heap.size,0,none⟩ (.int .i64 i.1)).setCell ⟨w2.heap.size,1,none⟩ (.int .i64 i.2))).cell? ⟨w2.heap.size,1,none⟩=some (.int .i64 i.2):=by simp[go_sem,r0,r1,r2,r3,lB]
   clear r0 r1 r2 r3 lB;have lB:=gW u0;have a9:Hid (w.heap.size<=w2.heap.size):=mU a1;generalize ((G.setCell ⟨w2.heap.size,0,none⟩ (.int .i64 i.1)).setCell ⟨w2.heap.size,1,none⟩ (.int .i64 i.2))=w4 at *;generalize w2.heap.size=B at *
  |rename_i hh
   clear hh;have Z:Hid (w.grownBy (((G.setCell ⟨w1.heap.size,0,none⟩ (.int .i64 i.1)).setCell ⟨w1.heap.size,1,none⟩ (.int .i64 i.2))) none):=(a4 G _ _ _ W Y a1).1;have a7:Hid ((((G.setCell ⟨w1.heap.size,0,none⟩ (.int .i64 i.1)).setCell ⟨w1.heap.size,1,none⟩ (.int .i64 i.2))).heap[w.heap.size]? = some (lZ op a b c fb tb eb)):=(a4 G _ _ _ W Y a1).2;have u0:(((G.setCell ⟨w1.heap.size,0,none⟩ (.int .i64 i.1)).setCell ⟨w1.heap.size,1,none⟩ (.int .i64 i.2))).cell? ⟨w1.heap.size,0,none⟩=some (.int .i64 i.1):=by simp[go_sem,r0,r1,r2,r3,lB]
   have u1:(((G.setCell ⟨w1.heap.size,0,none⟩ (.int .i64 i.1)).setCell ⟨w1.heap.size,1,none⟩ (.int .i64 i.2))).cell? ⟨w1.heap.size,1,none⟩=some (.int .i64 i.2):=by simp[go_sem,r0,r1,r2,r3,lB]
   clear r0 r1 r2 r3 lB;have lB:=gW u0;have a9:Hid (w.heap.size<=w1.heap.size):=mU a1;generalize ((G.setCell ⟨w1.heap.size,0,none⟩ (.int .i64 i.1)).setCell ⟨w1.heap.size,1,none⟩ (.int .i64 i.2))=w4 at *;generalize w1.heap.size=B at *
  |rename_i hh
   clear hh;have Z:Hid (w.grownBy ((G.alloc (.cells #[.int .i64 i.1,.int .i64 i.2] 149))) none):=au W _;have a7:Hid (((G.alloc (.cells #[.int .i64 i.1,.int .i64 i.2] 149))).heap[w.heap.size]? = some (lZ op a b c fb tb eb)):=HZ _ _ _ _ Y;have u0:((G.alloc (.cells #[.int .i64 i.1,.int .i64 i.2] 149))).cell? ⟨G.heap.size,0,none⟩=some (.int .i64 i.1):=by simp[go_sem]
   have u1:((G.alloc (.cells #[.int .i64 i.1,.int .i64 i.2] 149))).cell? ⟨G.heap.size,1,none⟩=some (.int .i64 i.2):=by simp[go_sem]
   have lB:=gW u0;have a9:Hid (w.heap.size<=G.heap.size):=W.size;generalize (G.alloc (.cells #[.int .i64 i.1,.int .i64 i.2] 149))=w4 at *;generalize G.heap.size=B at *
 all_goals
  obtain⟨x0,x1,x2,x3,x4,x5,x6⟩:=fk a7;have lx:=bz a7;have d1:=(bh Z (a:=⟨tb,1,none⟩) lt).1.trans c1;have aO:tb<w4.heap.size:=dm lt Z.size;have aN:eb<w4.heap.size:=dm le Z.size
  cases ok with
  |false=>
   go_wp2_with fail
   go_ret;exact⟨rfl,H0 _ Z (ag (by first|rfl|trivial))⟩
  |true=>
   by_cases hm:m=20
   .have aM:(m:Int)=20:=by omega
    have HM:=az hm;clear hm;go_wp2_with fail
    go_ret;exact⟨by rw[HM.out];rfl,H0 _ Z (ab HM)⟩
   have aM:¬((m:Int)=20):=by omega
   have HM:=az hm;clear hm;go_wp2_with fail
   have HS:Hid (∀w',w4.grownBy w' none->w'.cell? ⟨w.heap.size,0,none⟩=some (.int .u8 op)/\w'.cell? ⟨w.heap.size,1,none⟩=some (.int .u8 a)/\w'.cell? ⟨w.heap.size,2,none⟩=some (.int .u8 b)/\w'.cell? ⟨w.heap.size,3,none⟩=some (.int .u8 c)/\w'.cell? ⟨w.heap.size,4,none⟩=some (P0 fb)/\w'.cell? ⟨w.heap.size,5,none⟩=some (P0 tb)/\w'.cell? ⟨w.heap.size,6,none⟩=some (P0 eb)/\w'.cell? ⟨B,0,none⟩=some (.int .i64 i.1)/\w'.cell? ⟨B,1,none⟩=some (.int .i64 i.2)):=λw' hg=>by
    obtain⟨x0,x1,x2,x3,x4,x5,x6⟩:=fk (dp hg a7);exact⟨x0,x1,x2,x3,x4,x5,x6,(bh hg (a:=⟨B,0,none⟩) lB).1.trans u0,(bh hg (a:=⟨B,1,none⟩) lB).1.trans u1⟩
   have aD:Hid (∀w5 w':World,w4.grownBy w5 none->(∀k,w.heap.size<=k->k<w5.heap.size->w'.heap[k]? = w5.heap[k]?)->w'.cell? ⟨w.heap.size,0,none⟩=some (.int .u8 op)/\w'.cell? ⟨w.heap.size,1,none⟩=some (.int .u8 a)/\w'.cell? ⟨w.heap.size,2,none⟩=some (.int .u8 b)/\w'.cell? ⟨w.heap.size,3,none⟩=some (.int .u8 c)/\w'.cell? ⟨w.heap.size,4,none⟩=some (P0 fb)/\w'.cell? ⟨w.heap.size,5,none⟩=some (P0 tb)/\w'.cell? ⟨w.heap.size,6,none⟩=some (P0 eb)/\w'.cell? ⟨B,0,none⟩=some (.int .i64 i.1)/\w'.cell? ⟨B,1,none⟩=some (.int .i64 i.2)):=λw5 w' hg hk=>by
    obtain⟨y0,y1,y2,y3,y4,y5,y6,y7,y8⟩:=HS w5 hg;have hz:=hg.size;have e1:=hk w.heap.size (bj _) (by omega);have e2:=hk B a9 (by omega);exact⟨(aw (a:=⟨w.heap.size,0,none⟩) e1).trans y0,(aw (a:=⟨w.heap.size,1,none⟩) e1).trans y1,(aw (a:=⟨w.heap.size,2,none⟩) e1).trans y2,(aw (a:=⟨w.heap.size,3,none⟩) e1).trans y3,(aw (a:=⟨w.heap.size,4,none⟩) e1).trans y4,(aw (a:=⟨w.heap.size,5,none⟩) e1).trans y5,(aw (a:=⟨w.heap.size,6,none⟩) e1).trans y6,(aw (a:=⟨B,0,none⟩) e2).trans y7,(aw (a:=⟨B,1,none⟩) e2).trans y8⟩
   have aJ:=az (HS w4.drew (bq (ax _ _)));go_region_held3 (λw'=>w'.cell? ⟨w.heap.size,0,none⟩=some (.int .u8 op)/\w'.cell? ⟨w.heap.size,1,none⟩=some (.int .u8 a)/\w'.cell? ⟨w.heap.size,2,none⟩=some (.int .u8 b)/\w'.cell? ⟨w.heap.size,3,none⟩=some (.int .u8 c)/\w'.cell? ⟨w.heap.size,4,none⟩=some (P0 fb)/\w'.cell? ⟨w.heap.size,5,none⟩=some (P0 tb)/\w'.cell? ⟨w.heap.size,6,none⟩=some (P0 eb)/\w'.cell? ⟨B,0,none⟩=some (.int .i64 i.1)/\w'.cell? ⟨B,1,none⟩=some (.int .i64 i.2)) (first|exact aJ|exact aK|exact aH) (first|(go_at_call 94;refine(HC w4.drew (bq Z)).mono ?_;rintro e w5 ⟨rfl,a6⟩;have aA:Hid (w4.grownBy w5 none):=⟨a6.os,a6.tape,a6.output,a6.size,a6.block⟩;have aK:=az (HS w5 aA);clear a6)|(go_at_call 119;refine(HE (by first|rfl|trivial) HM w5 (an Z aA)).mono ?_;rintro e w6 ⟨rfl,aF,aG⟩;have aI:=az aF;have aH:=az (aD w5 w6 aA aG);clear aF aG))
   all_goals
    go_wp2_with fail
    go_ret;exact⟨by have h:=HM.out;simp[pN,h],aI⟩
def Cj(ok : Bool) (m mt : Nat) : Int := if ok = false then 4 else if m = mt then 7 else 0
end
namespace F
theorem jx{s:Pl}{t:Nat}:fe s.more t↔fe s t\/t=s.nt+1:=by
 show(1<=t/\t<=s.nt+1)↔(1<=t/\t<=s.nt)\/t=s.nt+1;omega
theorem oc{s:Pl}{x y:Nat}:fz s.more x y↔fz s x y\/(x=5/\y=s.nt+1):=by
 unfold fz;rw[jx];constructor
 .rintro(h|h|h|⟨h,e|e⟩)
  .exact ag (ag h)
  .exact ag (ab (ag h))
  .exact ag (ab (ab (ag h)))
  .exact ag (ab (ab (ab ⟨h,e⟩)))
  exact ab ⟨h,e⟩
 rintro((h|h|h|⟨h,e⟩)|⟨h,e⟩)
 .exact ag h
 .exact ab (ag h)
 .exact ab (ab (ag h))
 .exact ab (ab (ab ⟨h,ag e⟩))
 exact ab (ab (ab ⟨h,ab e⟩))
theorem LW.more{s:Pl}(h:LW s)(hn:s.nt+1<=500000000):LW s.more:=by
 refine⟨λt ht x y o=>?_,λx y G t ht=>?_,λx y G=>?_,hn⟩
 .by_cases e:t=s.nt+1
  .subst e;have:(s.more.T (s.nt+1)).wh=none:=by show(s.new.T (s.nt+1)).wh=none;rw[lM];rfl
   rw[this]at o;cases o
  have i:=(jx.1 ht).resolve_right e
  obtain⟨k1,k2,H⟩:=h.a t i x y (by rw[<-o];show _=(s.new.T t).wh;rw[mi s e]);refine⟨oc.2 (ag k1),?_,H⟩;show t∈s.new.q x y;rw[qA s (λe=>by have:=(mO k1 e.1).2;omega)];exact k2
 .have i:t∈s.new.q x y:=ht;by_cases e:x=5/\y=s.nt+1
  .rw[e.1,e.2,s9]at i;cases i
  rw[qA s e]at i;obtain⟨k1,k2⟩:=h.b x y ((oc.1 G).resolve_right e) t i;refine⟨jx.2 (ag k1),?_⟩;show(s.new.T t).wh=_;rw[mi s (by have:=k1.2;omega)];exact k2
 show(s.new.q x y).Nodup;by_cases e:x=5/\y=s.nt+1
 .rw[e.1,e.2,s9];exact List.nodup_nil
 rw[qA s e];exact h.c x y ((oc.1 G).resolve_right e)
theorem rk(s:Pl)(t:Nat)(f:gY)(u:Nat):((s.push t f).T u).wh=(s.T u).wh/\((s.push t f).T u).lf=(s.T u).lf:=by
 unfold Pl.push;by_cases e:u=t
 .subst e;rw[df];exact⟨rfl,rfl⟩
 rw[dP _ _ e];exact⟨rfl,rfl⟩
theorem LW.push{s:Pl}(h:LW s)(t:Nat)(f:gY):LW (s.push t f):=h.same rfl rfl (λu=>(rk s t f u).1)
def Pl.born(s:Pl)(f:Nat)(u v:B.V):Pl:=(s.more.push (s.nt+1) ⟨f,0,gh u v,(0,0,0,0)⟩).dV 2 0 (s.nt+1)
theorem Ik{p:dz}{s:Pl}{g:eE}{w:World}{f:Nat}(u v:B.V)(h:dQ p s g w)(hP:PW p)(hW:LW s)(aC:s.lv.Nodup)(a7:∀u,u∈s.lv->fe s u)(ho:s.out.length=s.nt)(hf:f<p.nf)(hn:s.nt+1<=500000000): Calls prog 60 #[P0 p.eb,.int .i64 f,vA u,vA v] w λe w'=>e=.returned (.int .i64 ((s.nt+1:Nat):Int))/\∃g',Tr p s g w (s.born f u v) g' w'/\∀a i,fe s a->g'.fb a i=g.fb a i:=by
 have aE:=dH (gn s.nt s.lv aC a7) hW.d;have Y:=h.row (x:=7) (y:=0) (by unfold eQ;omega) (iq (by omega));have Z:fe s.more (s.nt+1):=jx.2 (ab rfl);have H:s.more.T (s.nt+1)=qR:=lM s;refine Il p.eb f s.out.length s.lv.length (g.ro 7 0).2 (g.ro 6 0).2 (s.nt+1) (g.ro 7 0).1 (g.ro 6 0).1 u v s.out _ (iJ p s g)
  (λtb xt w7=>∃g7,Tr p s g w (s.more.push (s.nt+1) ⟨f,0,gh u v,(0,0,0,0)⟩) g7 w7/\g7.tb (s.nt+1)=tb/\g7.xt (s.nt+1)=xt/\∀a i,fe s a->g7.fb a i=g.fb a i)
  (λw9=>∃g',Tr p s g w (s.born f u v) g' w9/\∀a i,fe s a->g'.fb a i=g.fb a i) w h.E rfl rfl Y (h.row (x:=6) (y:=0) (by unfold eQ;omega) (iq (by omega))) (by omega) (by omega) ?_ ?_
 .intro w6 tb xe xt J W G a0 hA;have h3:=h.begin (hW.mw a7) ho hA;have a2:(g.more (s.nt+1) tb xe xt (J,G) (W,a0)).tb (s.nt+1)=tb:=(jP g (s.nt+1) tb xe xt).1;have a5:(g.more (s.nt+1) tb xe xt (J,G) (W,a0)).xe (s.nt+1)=xe:=(jP g (s.nt+1) tb xe xt).2.1;have a3:(g.more (s.nt+1) tb xe xt (J,G) (W,a0)).xt (s.nt+1)=xt:=(jP g (s.nt+1) tb xe xt).2.2;have o:=DF (t:=s.nt+1) (f:=f) (k:=.func 120) (ka:=#[]) (kc:=#[P0 xe,P0 xt]) (0,0,0,0) u v h3.r hP Z (by rw[H];rfl) hf (by rw[H];exact dc _) (by
   rw[H];show _=Fv 120 #[P0 _,P0 _];rw[a5,a3])
  rw[a2]at o;refine o.mono ?_;rintro e w7 ⟨rfl,fb,rb,r,Y⟩;have a6:((g.more (s.nt+1) tb xe xt (J,G) (W,a0)).push (s.nt+1) (s.more.T (s.nt+1)).fr.length fb rb r).tb (s.nt+1)=tb:=a2;have a1:=Y.r.xt (t:=s.nt+1) Z;refine⟨rfl,⟨_,h3.trans Y,a2,a3,λa i ha=>?_⟩,?_,?_,Y.r.E.lt⟩
  .exact(pq _ (λe=>by have:=ha.2;omega)).1
  .rw[a6]at a1;rw[<-a3];exact a1
  rw[<-a5];exact Y.r.xe (t:=s.nt+1) Z
 rintro tb xt w7 w8 ⟨g7,Y,rfl,rfl,aB⟩ aA;have a8:fe (s.more.push (s.nt+1) ⟨f,0,gh u v,(0,0,0,0)⟩) (s.nt+1):=Z;have o:=xA (x:=2) (y:=0) (t:=s.nt+1) (Y.r.kept aA) ((hW.more hn).push _ _) (ag ⟨rfl,rfl⟩) a8 (by omega) (by rw[(rk _ _ _ _).1,H];intro e;cases e);refine o.mono ?_;rintro e w9 ⟨rfl,r,h9⟩;have a4:fe ((s.more.push (s.nt+1) ⟨f,0,gh u v,(0,0,0,0)⟩).dV 2 0 (s.nt+1)) (s.nt+1):=(eg (iX _ _ _ _)).2 a8;exact⟨rfl,⟨_,(Y.kept aA).trans h9,aB⟩,(h9.r.tk a4).cell 0 (by omega),h9.r.xt a4⟩
end F
namespace F
def ot(p:dz)(s:Pl)(g:eE)(w:World):Prop:=∀x y z,x≠1->(ob p s g x y z).ok w
def qQ(p:dz)(s:Pl)(g:eE)(k:Nat):Prop:=∃x y z,x≠1/\(ob p s g x y z).bs k
theorem dQ.q{p:dz}{s:Pl}{g:eE}{w:World}(h:dQ p s g w):ot p s g w:=λx y z _=>h.o x y z
theorem ot.lt{p:dz}{s:Pl}{g:eE}{w:World}(h:ot p s g w){k:Nat}(e:qQ p s g k):k<w.heap.size:=by
 obtain⟨x,y,z,i,e⟩:=e;exact(ob p s g x y z).lt w k (h x y z i) e
theorem ot.block{p:dz}{s:Pl}{g:eE}{w w':World}(h:ot p s g w)(i:∀k,qQ p s g k->w'.heap[k]? = w.heap[k]?):ot p s g w':=
 λx y z e=>(ob p s g x y z).fr w w' (h x y z e) (λk o=>i k ⟨x,y,z,e,o⟩)
section
variable {p : dz} {s : Pl} {g : eE} {w : World} (h : ot p s g w)
include h
theorem ot.E:Full w p.eb 144 44 44 (iJ p s g):=h 0 0 0 (by omega)
theorem ot.row{x y:Nat}(hx:eQ x)(e:gu s x y 0=true):w.ownsRow 0 (zA x) (zB x) (sl s g x y) (eH s x y) (fU s g x y):=by
 have:=h x y 0 (by unfold eQ at hx;omega);rw[gH e,gk hx]at this;exact this
theorem ot.tk{t:Nat}(ht:fe s t):Full w (g.tb t) 160 7 7 (gE p s g t):=by
 have:=h 11 t 0 (by omega);rw[gH (gG (by omega) ht)]at this;exact this
theorem ot.fr{t i:Nat}(ht:fe s t)(hi:i<(s.T t).fr.length):w.heap[g.fb t i]? = some (yf p g t i (de s t i)):=by
 have:=h 13 t i (by omega);rw[gH (ns (by omega) ht hi)]at this;exact this
theorem ot.rg{t i:Nat}(ht:fe s t)(hi:i<(s.T t).fr.length):Full w (g.rb t i) 149 (p.rg (de s t i).f*2) (p.rg (de s t i).f*2) (eC (de s t i).R):=by
 have:=h 14 t i (by omega);rw[gH (ns (by omega) ht hi)]at this;exact this
end
def qp(p:dz)(s:Pl)(t k:Nat):List B.V:=(List.range k).flatMap (λi=>B.iE (de s t i).R (p.rg (de s t i).f))
theorem uE(p:dz)(s:Pl)(t k:Nat):qp p s t (k+1)=qp p s t k++B.iE (de s t k).R (p.rg (de s t k).f):=by
 unfold qp;rw[eA,List.flatMap_append];simp
def sk(p:dz)(s:Pl)(t:Nat):List B.V:=qp p s t (s.T t).fr.length
def we(p:dz)(s:Pl)(l:List Nat):List B.V:=l.flatMap (sk p s)
def eh(p:dz)(s:Pl):List B.V:=we p s s.lv++s.kp
theorem iB{w0 w:World}{cb i sb n:Nat}{ad:Option Addr}{c:B.Cy}{l o:List B.V}(h:vV w0 w cb i sb n ad c l)(e:l=o):vV w0 w cb i sb n ad c o:=by rw[<-e];exact h
theorem El{p:dz}{s:Pl}{g:eE}{t:Nat}(ht:fe s t)(cb rd sb n:Nat)(ad:Option Addr)(c:B.Cy)(l0:List B.V)(w0 w:World)(hQ:ot p s g w0)(hd:∀k,qQ p s g k->¬nh cb rd ad k)(hV:vV w0 w cb rd sb n ad c l0)(hn:n<=200)(hs:c.st.length+B.kX c.m n<=n)(a5:∀v,v∈l0->v.1≠0->v.1<=n)(hR:∀v,v∈sk p s t->v.1≠0->v.1<=n)(hm:(s.T t).fr.length<=1000)(aA:∀i,i<(s.T t).fr.length->p.rg (de s t i).f<=8): Calls prog 118 #[P0 (g.tb t),.func (.func 188) #[P0 cb] #[]] w λe w'=>e=.returned (.tuple #[])/\vV w0 w' cb rd sb n ad c (l0++sk p s t):=by
 have KA:Hid (∀w',dy (nh cb rd ad) w0 w'->ot p s g w'):=λw' h=>hQ.block (λk hk=>h.same (hQ.lt hk) (hd k hk));have HR:=az hR;have aJ:=az a5;have HV:=az hV;have aH:=az hs;have aE:=az aA;have HT:=az ht;have hw:=KA w HV.1;have c1:=(hw.tk ht).cell 1 (by omega);have a6:gE p s g t 1=.slice (g.ro 12 t).1 (s.T t).fr.length (g.ro 12 t).2:=rfl;rw[a6]at c1;have o:=hw.row (x:=12) (y:=t) (by unfold eQ;omega) (gG (by omega) ht);have H:(s.T t).fr.length≠0->∃W Y,g.ro 12 t=(some ⟨W,0,none⟩,Y):=λG=>by
  obtain⟨W,Y,he⟩:=dM o (by rw[jb];exact G);unfold sl at he;injection he with a b c;exact⟨W,Y,fV a c⟩
 clear hw o hQ hd hR a5 hV hs aA ht a6;by_cases G:(s.T t).fr.length=0
 .rw[G]at c1;have HH:Hid (sk p s t=[]):=by show _=_;unfold sk;rw[G];rfl
  generalize (g.ro 12 t).1=ka at *;generalize (g.ro 12 t).2=kc at *;clear H G;go_in;go_wp2_with fail
  go_loopw [13] (λi wr=>i=.int .i64 0/\wr=w) (λ_ _=>0)
  case atStart=>exact⟨rfl,rfl⟩
  case round=>
   obtain⟨rfl,rfl⟩:=hrel;go_wp2_with fail
   go_end0;exact⟨rfl,iB HV (by rw[HH.out,eB])⟩
 obtain⟨W,Y,a0⟩:=H G;rw[a0]at c1;have aC:w.cell? ⟨g.tb t,1,none⟩=some (.slice (some ⟨W,0,none⟩) (s.T t).fr.length Y):=c1;have aD:=az a0;generalize a9:(s.T t).fr.length=m at *;have J:=az a9;clear H G c1 a0 a9;go_in;go_wp2_with fail
 go_loopw [13] (λi wr=>∃k:Nat,k<=m/\i=.int .i64 k/\Hid (vV w0 wr cb rd sb n ad c (l0++qp p s t k))) (λi _=>m-(intOf i).toNat)
 case atStart=>exact⟨0,by omega,rfl,iB HV (by simp[qp])⟩
 case round=>
  obtain⟨k,hk,rfl,hX⟩:=hrel;by_cases Z:k<m
  .have hw:=KA _ hX.1;have a1:k<(s.T t).fr.length:=by rw[J.out];exact Z
   have o:=hw.row (x:=12) (y:=t) (by unfold eQ;omega) (gG (by omega) HT);have a2:wr.ownsRow 0 184 1 (.slice (some ⟨W,0,none⟩) m Y) m (((List.range m).map (g.fb t)).map P0):=by
    have e1:sl s g 12 t=.slice (some ⟨W,0,none⟩) m Y:=by unfold sl;rw[aD.out,jb,J.out]
    rw[e1,jb,kr,J.out]at o;exact o
   have d5:wr.cell? ⟨W,k,none⟩=some (P0 (g.fb t k)):=(iG a2).2.2.2.2.2 k _ (by simp[Z]);obtain⟨_,_,f2,_,_⟩:=ib (hw.fr HT a1);have aM:=aE k Z;have aN:(k:Int)<m:=by omega
   have aK:Hid (qp p s t (k+1)=qp p s t k++B.iE (de s t k).R (p.rg (de s t k).f)):=uE p s t k;have aB:Hid (∀w',dy (nh cb rd ad) w0 w'->Full w' (g.rb t k) 149 (p.rg (de s t k).f*2) (p.rg (de s t k).f*2) (eC (de s t k).R)):=λw' ho=>(KA w' ho).rg HT a1;have a7:Hid (∀v,v∈qp p s t k++B.iE (de s t k).R (p.rg (de s t k).f)->v.1≠0->v.1<=n):=λv u=>HR v (by
    unfold sk;rw[J.out];rw[<-uE]at u;unfold qp at u ⊢;rw[List.mem_flatMap]at u ⊢;obtain⟨i,hi,u⟩:=u;exact⟨i,eJ.2 (by have:=eJ.1 hi;omega),u⟩)
   generalize p.rg (de s t k).f=nr at *;generalize (de s t k).R=R at *;clear hw o a2 aC;go_wp2_with fail
   go_loopw [22] (λi aI=>∃j:Nat,j<=nr/\i=.int .i64 j/\Hid (vV w0 aI cb rd sb n ad c (l0++qp p s t k++B.iE R j))) (λi _=>nr-(intOf i).toNat)
   case atStart=>exact⟨0,by omega,rfl,iB hX (by simp[B.iE])⟩
   case round=>
    obtain⟨j,hj,rfl,a3⟩:=hrel;by_cases a8:j<nr
    .have hF:=aB _ a3.1;have r0:=hF.cell (j*2) (by omega);have r1:=hF.cell (j*2+1) (by omega);rw[nE]at r0;rw[nD]at r1;clear hF;have aO:(j:Int)<nr:=by omega
     go_wp2_with fail
     refine(wu (R j) (a3.kept (ah _ _ _)) hn aH (λv u G=>?_) (λG=>a7 (R j) (List.mem_append_right _ (B.kI.2 ⟨j,a8,rfl⟩)) G)).mono ?_
     .rw[dY,di]at u;rcases u with u|u
      .exact aJ v u G
      refine a7 v ?_ G;rw[di]at u ⊢;refine u.imp id (λu=>?_);obtain⟨i,hi,rfl⟩:=B.kI.1 u;exact B.kI.2 ⟨i,by omega,rfl⟩
     rintro e w5 ⟨rfl,a4⟩;have aF:=az a4;clear a4 r0 r1;go_wp2_with fail
     go_roundw
     case rel=>
      first|exact⟨j+1,by omega,by go_num,by show vV _ _ _ _ _ _ _ _ (l0++qp p s t k++B.iE R (j+1));rw[B.AY,<-dY];exact aF⟩|trace_state
     case measure=>simp[intOf];omega
    obtain rfl:j=nr:=by omega
    go_wp2_with fail
    go_roundw
    case rel=>exact⟨k+1,by omega,by go_num,iB a3 (by rw[aK.out,dY])⟩
    case measure=>simp[intOf];omega
  obtain rfl:k=m:=by omega
  go_wp2_with fail
  go_end0;exact⟨rfl,iB hX (by unfold sk;rw[J.out])⟩
theorem AZ(l:List B.V):B.iE (λi=>l.getD i (0,0)) l.length=l:=by
 apply List.ext_getElem?
 intro i;unfold B.iE;rw[eo];by_cases h:i<l.length
 .rw[fW h,bn h];simp[ar,bn h]
 rw[cw (by simp;omega),cw (by omega)];rfl
theorem C0(p:dz)(s:Pl)(l:List Nat)(t:Nat):we p s (l++[t])=we p s l++sk p s t:=by
 unfold we;rw[List.flatMap_append];simp
theorem um{α:Type}(l:List α)(k:Nat)(x:α)(h:l[k]? = some x):l.take (k+1)=l.take k++[x]:=by
 rw[List.take_add_one,h];rfl
theorem Kq{p:dz}{s:Pl}{g:eE}{w:World}(h:ot p s g w)(a0:∀u,u∈s.lv->fe s u)(b3:s.lv.length<=1000000000)(aZ:s.kp.length<=1000000)(aF:∀u,u∈s.lv->(s.T u).fr.length<=1000)(aM:∀u,u∈s.lv->∀i,i<(s.T u).fr.length->p.rg (de s u i).f<=8): IC (qQ p s g) w p.eb (eh p s).length (λi=>(eh p s).getD i (0,0)):=by
 intro w1 cb rd sb n ad cap c hk hC hQ hn hs hR;rw[AZ];have a1:∀v,v∈eh p s->v.1≠0->v.1<=n:=λv Y h0=>by
  obtain⟨i,hi,rfl⟩:=List.mem_iff_getElem.1 Y;have:=hR i hi;simp only[]at this;have e:(eh p s).getD i (0,0)=(eh p s)[i]:=by rw[ar,bn hi];rfl
  rw[e]at this;exact this h0
 have J:=h.block hk;have KA:Hid (∀w',dy (nh cb rd ad) w1 w'->ot p s g w'):=λw' h=>J.block (λk hk=>h.same (J.lt hk) (hQ k hk));have aS:=az (Ei hC);have aU:=az hs;have aR:Hid (∀t,t∈s.lv->∀(l0:List B.V) (w':World),vV w1 w' cb rd sb n ad c l0->(∀v,v∈l0->v.1≠0->v.1<=n)->Calls prog 118 #[P0 (g.tb t),.func (.func 188) #[P0 cb] #[]] w' λe w2=>e=.returned (.tuple #[])/\vV w1 w2 cb rd sb n ad c (l0++sk p s t)):=λt ht l0 w' hV aT=>
  El (a0 t ht) cb rd sb n ad c l0 w1 w' J hQ hV hn hs aT (λv Y=>a1 v (by unfold eh we;rw[di,List.mem_flatMap];exact ag ⟨t,ht,Y⟩)) (aF t ht) (aM t ht)
 have aW:Hid (∀k v,v∈we p s (s.lv.take k)->v.1≠0->v.1<=n):=λk v Y=>a1 v (by
  unfold we at Y;unfold eh we;rw[List.mem_flatMap]at Y;obtain⟨t,ht,Y⟩:=Y;rw[di,List.mem_flatMap];exact ag ⟨t,List.mem_of_mem_take ht,Y⟩)
 have aD:Hid (∀j v,v∈we p s s.lv++s.kp.take j->v.1≠0->v.1<=n):=λj v Y=>a1 v (by
  unfold eh;rw[di]at Y ⊢;exact Y.imp id List.mem_of_mem_take)
 have aN:=J.E.cell 29 (by omega);have aC:iJ p s g 29=.slice (g.ro 6 0).1 s.lv.length (g.ro 6 0).2:=rfl;rw[aC]at aN;go_in;go_wp2_with fail
 generalize W:(g.ro 6 0).1=la at *;generalize aK:(g.ro 6 0).2=lc at *;generalize aI:s.lv.length=ln at *;have a4:=az (ay W (ay aK aI));go_loopw [13] (λi wr=>∃k:Nat,k<=ln/\i=.int .i64 k/\Hid (vV w1 wr cb rd sb n ad c (we p s (s.lv.take k)))) (λi _=>ln-(intOf i).toNat)
 case atStart=>exact⟨0,by omega,rfl,iB aS.out (by simp[we])⟩
 case round=>
  obtain⟨k,hk,rfl,hX⟩:=hrel;by_cases a0:k<ln
  .have hw:=KA.out _ hX.out.1;have G:=hw.row (x:=6) (y:=0) (by unfold eQ;omega) (iq (by omega));have H:eH s 6 0=ln:=a4.out.2.2;obtain⟨lb,a7,he⟩:=dM G (by rw[H];omega);have W:la=some ⟨lb,0,none⟩:=by
    unfold sl at he;injection he with a b c;rw[<-a4.out.1];exact a
   obtain⟨t,a5⟩:∃t,s.lv[k]? = some t:=⟨_,bn (by rw[a4.out.2.2];exact a0)⟩;have a6:=ed a5;rw[he,H]at G;have o:wr.ownsRow 0 155 1 (.slice (some ⟨lb,0,none⟩) ln a7) ln ((s.lv.map g.tb).map P0):=G;have d5:wr.cell? ⟨lb,k,none⟩=some (P0 (g.tb t)):=(iG o).2.2.2.2.2 k _ (by simp[a5]);subst W;have b0:(k:Int)<(ln:Int):=by omega
   have a2:Hid (we p s (s.lv.take (k+1))=we p s (s.lv.take k)++sk p s t):=by show _=_;rw[um _ _ _ a5,C0]
   have aA:=az a6;go_wp2_with fail
   refine(aR.out t aA.out _ _ hX.out (aW.out k)).mono ?_;rintro e w5 ⟨rfl,Z⟩;have a8:=az Z;go_wp2_with fail
   go_roundw
   case rel=>exact⟨k+1,by omega,by go_num,iB a8.out a2.out.symm⟩
   case measure=>simp[intOf];omega
  obtain rfl:k=ln:=by omega
  have hw:=KA.out _ hX.out.1;have aQ:=hw.E.cell 31 (by omega);have aG:iJ p s g 31=.slice (g.ro 8 0).1 s.kp.length (g.ro 8 0).2:=rfl;rw[aG]at aQ;have aP:Hid (vV w1 wr cb rd sb n ad c (we p s s.lv)):=iB hX.out (by rw[<-a4.out.2.2,List.take_length]);generalize aJ:(g.ro 8 0).1=ka at *;generalize aE:(g.ro 8 0).2=kc at *;generalize aH:s.kp.length=kn at *;have a3:=az (ay aJ (ay aE aH));go_wp2_with fail
  go_loopw [26] (λi aV=>∃j:Nat,j<=kn/\i=.int .i64 j/\Hid (vV w1 aV cb rd sb n ad c (we p s s.lv++s.kp.take j))) (λi _=>kn-(intOf i).toNat)
  case atStart=>exact⟨0,by omega,rfl,iB aP.out (by simp)⟩
  case round=>
   obtain⟨j,hj,rfl,a9⟩:=hrel;by_cases aL:j<kn
   .have hw:=KA.out _ a9.out.1;have G:=hw.row (x:=8) (y:=0) (by unfold eQ;omega) (iq (by omega));have H:eH s 8 0=kn:=a3.out.2.2;obtain⟨lb,a7,he⟩:=dM G (by rw[H];omega);have W:ka=some ⟨lb,0,none⟩:=by
     unfold sl at he;injection he with a b c;rw[<-a3.out.1];exact a
    obtain⟨v,aB⟩:∃v,s.kp[j]? = some v:=⟨_,bn (by rw[a3.out.2.2];exact aL)⟩;rw[he,H]at G;have o:wr.ownsRow 0 149 2 (.slice (some ⟨lb,0,none⟩) kn a7) kn (fT s.kp):=G;obtain⟨r0,r1⟩:=(ru o).2.2.2.2.2 j v aB;subst W;have b4:(j:Int)<(kn:Int):=by omega
    have a2:Hid (we p s s.lv++s.kp.take (j+1)=we p s s.lv++s.kp.take j++[v]):=by show _=_;rw[um _ _ _ aB,dY]
    have aA:=az (aD.out (j+1) v (by rw[a2.out];simp));go_wp2_with fail
    refine(wu v (a9.out.kept (ah _ _ _)) hn aU.out (aD.out j) aA.out).mono ?_;rintro e w5 ⟨rfl,Z⟩;have a8:=az Z;go_wp2_with fail
    go_roundw
    case rel=>exact⟨j+1,by omega,by go_num,iB a8.out a2.out.symm⟩
    case measure=>simp[intOf];omega
   obtain rfl:j=kn:=by omega
   go_wp2_with fail
   go_end0;exact⟨rfl,iB a9.out (by unfold eh;rw[<-a3.out.2.2,List.take_length])⟩
end F
section
theorem BZ(op a b c fb tb eb:Nat)(w:World):Calls prog 96 #[dZ op a b c fb tb eb] w λe w'=>e=.returned (.bool true)/\w.grownBy w' none:=by
 go_in;go_wp2_with fail
 go_ret;exact⟨rfl,ah _ _ _⟩
theorem BO(op a b c fb tb eb cb L nx rb nr:Nat)(back:Value)(R:Nat->B.V)(H:a<nr)(w:World)(u:Fr w fb cb L nx rb nr back R):Calls prog 97 #[dZ op a b c fb tb eb] w λe w'=>e=.returned (.bool (decide (R a=(0,0))))/\w.grownBy w' none:=by
 have y:=az u;have G:=Lt (R a) (0,0);generalize decide (R a=(0,0))=d at *;go_in;go_wp2_with fail
 refine(As op a b c fb tb eb cb L nx rb nr back R _ (y.out.kept (ah _ _ _)).1 (y.out.kept (ah _ _ _)).2.1 H).mono ?_;rintro e w1 ⟨rfl,i⟩;have o:=az (an (ah w _ none) i);go_wp2_with fail
 refine(fH 0 _).mono ?_;rintro e w2 ⟨rfl,rfl⟩;go_wp2_with fail
 go_ret;exact⟨rfl,au o.out _⟩
theorem yV(op a b c fb tb eb cb L nx rb nr vb:Nat)(back:Value)(R:Nat->B.V)(d:Bool)(y:Nat)(hy:Hid (y=if d=true then 256*b+c else nx))(hb:b<256)(hc:c<256)(w:World)(hF:Fr w fb cb L nx rb nr back R)(hv:w.cell? ⟨vb,0,none⟩=some (Fv 96 #[]))(a0:vb<w.heap.size)(hn:Hid (∀w',w.grownBy w' none->Calls prog 96 #[dZ op a b c fb tb eb] w' λe w''=>e=.returned (.bool d)/\w'.grownBy w'' none)): Calls prog 153 #[dZ op a b c fb tb eb,P0 vb] w λe w'=>e=.returned (.tuple #[])/\w.grownBy w' (some fb)/\Fr w' fb cb L y rb nr back R:=by
 have KF:=az hF;have ht:=sq op a b c hb hc;go_in;go_wp2_with fail
 refine(hn.out _ (ah _ _ _)).mono ?_;rintro e w1 ⟨rfl,H⟩;have W:=az (an (ah w _ none) H);have J:=az (dp H (jf w op a b c fb tb eb));have Y:=az (KF.out.kept W.out)
 cases d
 .have u:y=nx:=by have:=hy.out;simpa using this
  subst u;go_wp2_with fail
  go_end0;exact⟨rfl,eD W.out,Y.out⟩
 have u:256*b+c=y:=by have:=hy.out;simpa using this.symm
 rw[u]at ht;have HT:=az ht;obtain⟨x0,x1,x2,x3,x4,x5,x6⟩:=fk J.out;go_wp2_with fail
 go_region_with (go_at_call 154;refine(HT.out w1.drew).mono ?_;rintro e w2 ⟨rfl,i⟩;have G:w1.grownBy w2 none:=⟨i.os,i.tape,i.output,i.size,i.block⟩;have o:=az (Y.out.kept G);have Z:=az (an W.out G);obtain⟨x0,x1,x2,x3,x4,x5,x6⟩:=fk (dp G J.out);obtain⟨_,f1,_,_,z1⟩:=ib o.out.1;clear G)
 all_goals
  go_wp2_with fail
  go_end0;refine⟨rfl,bp (eD Z.out) (ag rfl) _,tu o.out.1 y,o.out.2.1.off (λe=>o.out.2.2 e.symm),o.out.2.2⟩
theorem y9(op a b c fb tb eb cb L nx rb nr G vb:Nat)(back:Value)(R:Nat->B.V)(d:Bool)(y:Nat)(Y:Hid (y=if d=true then 256*b+c else nx))(hb:b<256)(hc:c<256)(w:World)(W:Fr w fb cb L nx rb nr back R)(hw:w.cell? ⟨G,0,none⟩=some (Fv 153 #[P0 vb]))(hv:w.cell? ⟨vb,0,none⟩=some (Fv 96 #[]))(a0:G<w.heap.size)(H:vb<w.heap.size)(hn:Hid (∀w',w.grownBy w' none->Calls prog 96 #[dZ op a b c fb tb eb] w' λe w''=>e=.returned (.bool d)/\w'.grownBy w'' none)): Calls prog 163 #[dZ op a b c fb tb eb,P0 G] w λe w'=>e=.returned (.int .i64 0)/\w.grownBy w' (some fb)/\Fr w' fb cb L y rb nr back R:=by
 have KF:=az W;go_in;go_wp2_with fail
 refine(yV op a b c fb tb eb cb L nx rb nr vb back R d y Y hb hc _ (KF.out.kept (ah _ _ _)) (by simp[go_sem,H,hv]) (by simp;omega) (λw' Z=>hn.out w' (an (ah _ _ _) Z))).mono ?_;rintro e w1 ⟨rfl,i,o⟩;have u:=az o;have J:Hid (w.grownBy w1 (some fb)):=an (ah _ _ _) i;go_wp2_with fail
 go_ret;exact⟨rfl,J.out,u.out⟩
theorem yU(op a b c fb tb eb cb L nx rb nr vb:Nat)(back:Value)(R:Nat->B.V)(d:Bool)(y:Nat)(hy:Hid (y=if d=true then 256*b+c else nx))(hb:b<256)(hc:c<256)(w:World)(hF:Fr w fb cb L nx rb nr back R)(hv:w.cell? ⟨vb,0,none⟩=some (Fv 97 #[]))(a0:vb<w.heap.size)(hn:Hid (∀w',w.grownBy w' none->Calls prog 97 #[dZ op a b c fb tb eb] w' λe w''=>e=.returned (.bool d)/\w'.grownBy w'' none)): Calls prog 153 #[dZ op a b c fb tb eb,P0 vb] w λe w'=>e=.returned (.tuple #[])/\w.grownBy w' (some fb)/\Fr w' fb cb L y rb nr back R:=by
 have KF:=az hF;have ht:=sq op a b c hb hc;go_in;go_wp2_with fail
 refine(hn.out _ (ah _ _ _)).mono ?_;rintro e w1 ⟨rfl,H⟩;have W:=az (an (ah w _ none) H);have J:=az (dp H (jf w op a b c fb tb eb));have Y:=az (KF.out.kept W.out)
 cases d
 .have u:y=nx:=by have:=hy.out;simpa using this
  subst u;go_wp2_with fail
  go_end0;exact⟨rfl,eD W.out,Y.out⟩
 have u:256*b+c=y:=by have:=hy.out;simpa using this.symm
 rw[u]at ht;have HT:=az ht;obtain⟨x0,x1,x2,x3,x4,x5,x6⟩:=fk J.out;go_wp2_with fail
 go_region_with (go_at_call 154;refine(HT.out w1.drew).mono ?_;rintro e w2 ⟨rfl,i⟩;have G:w1.grownBy w2 none:=⟨i.os,i.tape,i.output,i.size,i.block⟩;have o:=az (Y.out.kept G);have Z:=az (an W.out G);obtain⟨x0,x1,x2,x3,x4,x5,x6⟩:=fk (dp G J.out);obtain⟨_,f1,_,_,z1⟩:=ib o.out.1;clear G)
 all_goals
  go_wp2_with fail
  go_end0;refine⟨rfl,bp (eD Z.out) (ag rfl) _,tu o.out.1 y,o.out.2.1.off (λe=>o.out.2.2 e.symm),o.out.2.2⟩
theorem yZ(op a b c fb tb eb cb L nx rb nr G vb:Nat)(back:Value)(R:Nat->B.V)(d:Bool)(y:Nat)(Y:Hid (y=if d=true then 256*b+c else nx))(hb:b<256)(hc:c<256)(w:World)(W:Fr w fb cb L nx rb nr back R)(hw:w.cell? ⟨G,0,none⟩=some (Fv 153 #[P0 vb]))(hv:w.cell? ⟨vb,0,none⟩=some (Fv 97 #[]))(a0:G<w.heap.size)(H:vb<w.heap.size)(hn:Hid (∀w',w.grownBy w' none->Calls prog 97 #[dZ op a b c fb tb eb] w' λe w''=>e=.returned (.bool d)/\w'.grownBy w'' none)): Calls prog 163 #[dZ op a b c fb tb eb,P0 G] w λe w'=>e=.returned (.int .i64 0)/\w.grownBy w' (some fb)/\Fr w' fb cb L y rb nr back R:=by
 have KF:=az W;go_in;go_wp2_with fail
 refine(yU op a b c fb tb eb cb L nx rb nr vb back R d y Y hb hc _ (KF.out.kept (ah _ _ _)) (by simp[go_sem,H,hv]) (by simp;omega) (λw' Z=>hn.out w' (an (ah _ _ _) Z))).mono ?_;rintro e w1 ⟨rfl,i,o⟩;have u:=az o;have J:Hid (w.grownBy w1 (some fb)):=an (ah _ _ _) i;go_wp2_with fail
 go_ret;exact⟨rfl,J.out,u.out⟩
end
end Go.Proofs.YtnjiinbhbjpfkaaGreatDoor
