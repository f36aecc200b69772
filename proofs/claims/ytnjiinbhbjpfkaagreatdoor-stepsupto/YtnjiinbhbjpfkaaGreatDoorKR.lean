import Derived.Test.YtnjiinbhbjpfkaaGreatDoorKL
import Derived.Test.YtnjiinbhbjpfkaaGreatDoorKF
set_option maxRecDepth 100000
set_option maxHeartbeats 0
set_option linter.all false
namespace Go.Proofs.YtnjiinbhbjpfkaaGreatDoor
open Go.RowKit Go.Proofs.Tryz
section
def x7(w:World)(xb tb:Nat)(v:B.V):Prop:=w.heap[xb]? = some (.cells #[P0 tb] 155 (0,0))/\w.heap[xb+1]? = some (.cells #[.int .i64 (v.1:Int),.int .i64 v.2] 149 (0,0))
theorem Hc(eb tb kind t n c:Nat)(x:Int)(v:B.V)(ad:Option Addr)(S1 S3:World->Prop)(S2:Value->World->Prop)(I:List Nat->World->Prop)(sx:Nat->Nat)(xs:List Nat)(w:World)(H1:∀w1,w.grownBy w1 none->x7 w1 w.heap.size tb v->Calls prog 133 #[P0 tb] w1 λe w2=>e=.returned (.tuple #[])/\S1 w2)(aF:∀w1,S1 w1->x7 w1 w.heap.size tb v/\(∃Tk,Full w1 tb 160 7 7 Tk)/\(w1.setCell ⟨tb,2,none⟩ (.bool false)).cell? ⟨eb,29,none⟩=some (.slice ad n c)/\eb<w1.heap.size)(H2:∀w1,S1 w1->Calls prog 209 #[.slice ad n c,Fv 210 #[P0 w.heap.size]] (w1.setCell ⟨tb,2,none⟩ (.bool false)) λe w2=>∃a' n' Z,e=.returned (.slice a' n' Z)/\S2 (.slice a' n' Z) w2)(aH:∀lv w2,S2 lv w2->x7 (w2.setCell ⟨eb,29,none⟩ lv) w.heap.size tb v/\(∃E,Full w2 eb 144 44 44 E)/\(w2.setCell ⟨eb,29,none⟩ lv).cell? ⟨tb,0,none⟩=some (.int .i64 (t:Int))/\tb<w2.heap.size)(H3:∀lv w2 G,S2 lv w2->(w2.setCell ⟨eb,29,none⟩ lv).grownBy G none->Calls prog 211 #[P0 eb,.int .i64 (t:Int),vA v] G λe i=>e=.returned (.tuple #[])/\S3 i)(a8:∀G,S3 G->x7 G w.heap.size tb v)(H4:∀G,S3 G->Calls prog 173 #[P0 eb,.int .i64 kind,P0 tb,.int .i64 x] G λe i=>e=.returned (.tuple #[])/\I xs i)(hI:∀ys i,I ys i->x7 i w.heap.size tb v/\tb<i.heap.size/\(∀Y,i.grownBy Y none->I ys Y)/\(ys=[]->∃a' Z,i.cell? ⟨tb,6,none⟩=some (.slice a' 0 Z))/\(∀y r,ys=y :: r->∃q Z,i.cell? ⟨tb,6,none⟩=some (.slice (some ⟨q,0,none⟩) (r.length+1) Z)/\i.cell? ⟨q,0,none⟩=some (P0 y)/\i.cell? ⟨y,4,none⟩=some (Fv 207 #[P0 (sx y)])/\y<i.heap.size))(HL:∀y r i,I (y :: r) i->Calls prog 207 #[vA v,P0 (sx y)] i λe Y=>e=.returned (.tuple #[])/\I r Y): Calls prog 175 #[P0 eb,P0 tb,vA v,.int .i64 kind,.int .i64 x] w λe w'=>e=.returned (.tuple #[])/\I [] w':=by
 have K1:=az H1;have aM:=az aF;have K2:=az H2;have aV:=az aH;have K3:=az H3;have aW:=az a8;have K4:=az H4;have KI:=az hI;have KL:=az HL;clear H1 aF H2 aH H3 a8 H4 hI HL;obtain⟨v1,v2⟩:=v;go_in;go_wp2_with fail
 generalize a4:(w.alloc (.cells #[P0 tb] 155)).alloc (.cells #[.int .i64 (v1:Int),.int .i64 v2] 149)=w1;have aA:w.grownBy w1 none:=by rw[<-a4];exact au (au (ax _ _) _) _
 have aG:x7 w1 w.heap.size tb (v1,v2):=by
  rw[<-a4];constructor
  .rw[ak _ _ _ (by simp)];exact bf _ _
  have h1:=bf (w.alloc (.cells #[P0 tb] 155)) (.cells #[.int .i64 (v1:Int),.int .i64 v2] 149);have h2:(w.alloc (.cells #[P0 tb] 155)).heap.size=w.heap.size+1:=by simp
  rw[h2]at h1;exact h1
 have KX:=az (K1.out w1 aA aG);clear a4 aA aG;refine KX.out.mono ?_;rintro e w2 ⟨rfl,a1⟩;obtain⟨a7,⟨Tk,hT⟩,b9,b6⟩:=aM.out w2 a1;have x0:w2.cell? ⟨w.heap.size,0,none⟩=some (P0 tb):=by simp[World.cell?,a7.1]
 obtain⟨t2,z2⟩:=hT.cells 2 (by omega);generalize Tk 2=y2 at t2;have aR:=az a1;clear a1 a7 hT;go_wp2_with fail
 refine(K2.out w2 aR.out).mono ?_;rintro e G ⟨a',n',Z,rfl,a3⟩;obtain⟨aE,⟨E3,a0⟩,b3,aN⟩:=aV.out _ G a3;obtain⟨aI,aO⟩:=a0.cells 29 (by omega);generalize E3 29=b4 at aI;have aU:=az a3;have J:=az aE;clear a3 a0 aE x0 t2 z2;go_wp2_with fail
 generalize a5:G.setCell ⟨eb,29,none⟩ (.slice a' n' Z)=i at *;have aP:i.heap.size=G.heap.size:=by rw[<-a5];simp[World.setCell]
 have x0:i.cell? ⟨w.heap.size,0,none⟩=some (P0 tb):=by simp[World.cell?,J.out.1]
 have x1:i.cell? ⟨w.heap.size+1,0,none⟩=some (.int .i64 (v1:Int)):=by simp[World.cell?,J.out.2]
 have x2:i.cell? ⟨w.heap.size+1,1,none⟩=some (.int .i64 v2):=by simp[World.cell?,J.out.2]
 have aL:Hid (∀Y,i.grownBy Y none->Calls prog 211 #[P0 eb,.int .i64 (t:Int),vA (v1,v2)] Y λe w6=>e=.returned (.tuple #[])/\S3 w6):=λY hg=>K3.out _ G Y aU.out (by rw[a5];exact hg);clear a5 aP aI aO aN;go_wp2_with fail
 go_cut [] (λwx=>Hid (S3 wx))
 case first=>
  go_region_with (go_at_call 211;refine(aL.out i.drew (bq (ax _ _))).mono ?_;rintro e w6 ⟨rfl,aB⟩;have W:=az aB;clear aB)
  all_goals
   go_wp2_with fail
   go_meet
   case rel=>exact W
 case rest=>
  have W:=hcut;have a6:=aW.out wc W.out;have q0:wc.cell? ⟨w.heap.size,0,none⟩=some (P0 tb):=by simp[World.cell?,a6.1]
  clear a6;go_wp2_with fail
  refine(K4.out wc W.out).mono ?_;rintro e w6 ⟨rfl,aD⟩;have aC:=az aD;clear aD q0 x0 x1 x2;go_wp2_with fail
  go_loopg [] (xs.length) (λn wr=>∃ys:List Nat,ys.length=n/\Hid (I ys wr))
  case atStart=>exact⟨xs,rfl,aC⟩
  case round=>
   obtain⟨ys,aK,rI⟩:=hrel;obtain⟨H,b5,a9,u,o⟩:=KI.out ys wr rI.out;have q0:wr.cell? ⟨w.heap.size,0,none⟩=some (P0 tb):=by simp[World.cell?,H.1]
   have q1:wr.cell? ⟨w.heap.size+1,0,none⟩=some (.int .i64 (v1:Int)):=by simp[World.cell?,H.2]
   have q2:wr.cell? ⟨w.heap.size+1,1,none⟩=some (.int .i64 v2):=by simp[World.cell?,H.2]
   have lq:=bz H.1;have b7:=bz H.2;have aX:=az a9;clear H a9 aC
   cases ys with
   | nil=>
    obtain⟨a2,c2,c6⟩:=u rfl;have hE:=gP tb 6 0 c2 a2 wr c6;simp only[decide_true]at hE;have HE:=az hE;clear hE u o;go_wp2_with fail
    refine HE.out.mono ?_;rintro e w8 ⟨rfl,rfl⟩;go_wp2_with fail
    go_end0;exact⟨rfl,rI.out⟩
   | cons y r=>
    obtain⟨q,c2,c6,cq,c4,ly⟩:=o y r rfl;have hE:=gP tb 6 (r.length+1) c2 (some ⟨q,0,none⟩) wr c6;have hd:decide ((r.length+1:Nat)=0)=false:=by simp
    rw[hd]at hE;have HE:=az hE;have aQ:=az (λ(w':World) (h:w'.cell? ⟨tb,6,none⟩=some (.slice (some ⟨q,0,none⟩) (r.length+1) c2)) (h2:w'.cell? ⟨q,0,none⟩=some (P0 y))=>qq tb 6 r.length c2 q y w' h h2);have aY:=az (λ(w':World) (hg:wr.grownBy w' none)=>KL.out y r w' (aX.out w' hg));clear hE hd u o;go_wp2_with fail
    refine HE.out.mono ?_;rintro e w8 ⟨rfl,rfl⟩;go_wp2_with fail
    go_region_with (first|(go_at_call 132;refine(aQ.out _ ?_ ?_).mono ?_;exact c6;exact cq;rintro e w9 ⟨rfl,rfl⟩)|(go_at_call 207;refine(aY.out w8.drew (bq (ax _ _))).mono ?_;rintro e w9 ⟨rfl,aJ⟩;have aT:=az aJ;clear aJ))
    all_goals
     go_wp2_with fail
     go_roundg (r.length)
     case measure=>first|omega|(simp at aK;omega)
     case rel=>exact⟨r,rfl,aT⟩
end
namespace F
theorem BF(op a b c fb tb eb cb L nx rb nr sb pb n:Nat)(back:Value)(kd:B.Kd)(vb:Vs)(R:Nat->B.V)(M:Nat->List B.V)(w:World)(hF:Fr w fb cb L nx rb nr back R)(hS:jm w sb pb eb n kd vb M)(hV:∀i,i<nr->B.qO kd.on n (R i))(hn:n<=200)(ha:a<nr)(hb:b<nr)(hc:c<nr)(aE:w.cell? ⟨eb,27,none⟩=some (P0 sb))(le:eb<w.heap.size)(aG:eb≠rb): Calls prog 101 #[dZ op a b c fb tb eb] w λe w'=>(kK vb.f M (R b) (R c)/\e=.returned (.int .i64 0)/\w.grownBy w' (some rb)/\Fr w' fb cb L nx rb nr back (B.set R a ((M (R b).1).getD (R c).2.toNat (0,0))))\/(¬kK vb.f M (R b) (R c)/\e=.returned (.int .i64 (gI vb.f (R b) (R c)))/\w.grownBy w' none):=by
 have KF:=az hF;have KS:=az hS;have HV:=az hV;have aQ:Hid (eb≠rb):=aG;clear hF hS hV aG;go_in;go_wp2_with fail
 have aB:=az (jf w op a b c fb tb eb);have a9:=az (ah w (.cells #[.int .u8 (op:Int),.int .u8 (a:Int),.int .u8 (b:Int),.int .u8 (c:Int),P0 fb,P0 tb,P0 eb] 186) none);generalize hW:w.alloc (.cells #[.int .u8 (op:Int),.int .u8 (a:Int),.int .u8 (b:Int),.int .u8 (c:Int),P0 fb,P0 tb,P0 eb] 186)=w1 at *;have b0:w1.heap.size=w.heap.size+1:=by rw[<-hW];simp
 clear hW;go_region_held3 (λw'=>w'.cell? ⟨w.heap.size,0,none⟩=some (.int .u8 (op:Int))/\w'.cell? ⟨w.heap.size,1,none⟩=some (.int .u8 (a:Int))/\w'.cell? ⟨w.heap.size,2,none⟩=some (.int .u8 (b:Int))/\w'.cell? ⟨w.heap.size,3,none⟩=some (.int .u8 (c:Int))/\w'.cell? ⟨w.heap.size,4,none⟩=some (P0 fb)/\w'.cell? ⟨w.heap.size,5,none⟩=some (P0 tb)/\w'.cell? ⟨w.heap.size,6,none⟩=some (P0 eb)) (first|exact fk aB.out|exact fk aL.out|exact fk aK.out|exact fk a6.out) (first|(go_at_call 86;refine(pO op a b c fb tb eb cb L nx rb nr back R w1.drew (KF.out.kept (bq a9.out)).1 (KF.out.kept (bq a9.out)).2.1 hb).mono ?_;rintro e w2 ⟨rfl,a8⟩;have a4:=az (an (bq a9.out) a8);have aL:=az (dp a8 (show w1.drew.heap[w.heap.size]? = _ from aB.out));clear a8)|(go_at_call 94;refine(qJ op a b c fb tb eb cb L nx rb nr back R w2 (KF.out.kept a4.out).1 (KF.out.kept a4.out).2.1 hc).mono ?_;rintro e w3 ⟨rfl,a1⟩;have Y:=az (an a4.out a1);have aK:=az (dp a1 aL.out);clear a1)|(go_at_call 158;refine(wN op a b c fb tb eb sb pb n (R b) (R c) kd vb M w3 (KS.out.kept Y.out) hn (HV.out b hb) ((bh Y.out (a:=⟨eb,27,none⟩) le).1.trans aE) (dm le Y.out.size)).mono ?_;rintro e w4 ⟨v,rfl,a5,a2⟩;have G:=az (an Y.out a5);have a6:=az (dp a5 aK.out);obtain⟨pv,wy,rfl⟩:∃(pv:Value) (wy:Int),v=.tuple #[pv,.int .i64 wy]:=(by rcases a2 with⟨_,h⟩|⟨_,h⟩;exact⟨_,_,h⟩;exact⟨_,_,h⟩);have aR:=az a2;clear a5 a2))
 all_goals
  rcases aR.out with⟨H,he⟩|⟨H,he⟩
  .have aA:=az H;obtain⟨o1,ok,o2,o3,o4⟩:=id H;have hp:1<=(R b).1/\(R b).1<=n/\kd.on (R b).1=true:=by
    rcases HV.out b hb with h|h
    .exact ch h o1
    exact⟨h.1,h.2.1,h.2.2.1⟩
   injection he with he;injection he with he;injection he with a7 o;injection o with o _;injection o with _ o;subst a7 o;obtain⟨i,hi⟩:∃i:Nat,(R c).2=(i:Int):=⟨(R c).2.toNat,by omega⟩;obtain⟨k,hk⟩:∃k,(R b).1=k+1:=⟨(R b).1-1,by omega⟩;have aM:i<(M (k+1)).length:=by rw[hi,hk]at o4;omega
   have aD:∀w':World,w.grownBy w' none->Calls prog 159 #[P0 sb,vA (R b),.int .i64 (R c).2] w' λe w''=>e=.returned (vA ((M (R b).1).getD (R c).2.toNat (0,0)))/\w'.grownBy w'' none:=by
    intro w' hg;have e1:R b=(k+1,(R b).2):=fV hk rfl;rw[hk,hi];have:=yt sb pb eb n k i (R b).2 kd vb M w' (KS.out.kept hg) hn (by omega) (by rw[<-hk];exact hp.2.2) aM;rw[<-e1]at this;exact this
   have aS:=az aD;generalize a0:(M (R b).1).getD (R c).2.toNat (0,0)=aU at *;have aC:=az a0;generalize aJ:(R c).2=yy at *;have aN:=az aJ;clear aJ;clear H ok o1 o2 o3 o4 hp hi hk aM aD a0;have W:=az (KF.out.kept G.out);obtain⟨x0,x1,x2,x3,x4,x5,x6⟩:=fk a6.out;have lx:=bz a6.out;have u:w.heap.size≠rb:=by have:=KF.out.2.1.lt;omega
   have aT:eb≠rb:=by have:=aQ.out;exact this
   have HS:Hid (∀w':World,dy (λk=>k=rb) w4 w'->(w'.cell? ⟨w.heap.size,0,none⟩=some (.int .u8 (op:Int))/\w'.cell? ⟨w.heap.size,1,none⟩=some (.int .u8 (a:Int))/\w'.cell? ⟨w.heap.size,2,none⟩=some (.int .u8 (b:Int))/\w'.cell? ⟨w.heap.size,3,none⟩=some (.int .u8 (c:Int))/\w'.cell? ⟨w.heap.size,4,none⟩=some (P0 fb)/\w'.cell? ⟨w.heap.size,5,none⟩=some (P0 tb)/\w'.cell? ⟨w.heap.size,6,none⟩=some (P0 eb)/\w'.cell? ⟨eb,27,none⟩=some (P0 sb))):=
    λw' hO=>⟨(hO.cell lx u).trans x0,(hO.cell lx u).trans x1,(hO.cell lx u).trans x2,(hO.cell lx u).trans x3,(hO.cell lx u).trans x4,(hO.cell lx u).trans x5,(hO.cell lx u).trans x6,(hO.cell (by omega) aT).trans ((bh G.out (a:=⟨eb,27,none⟩) le).1.trans aE)⟩
   have aO:=az (HS.out w4.drew (dk _ _));go_wp2_with fail
   go_region_held3 (λw'=>w'.cell? ⟨w.heap.size,0,none⟩=some (.int .u8 (op:Int))/\w'.cell? ⟨w.heap.size,1,none⟩=some (.int .u8 (a:Int))/\w'.cell? ⟨w.heap.size,2,none⟩=some (.int .u8 (b:Int))/\w'.cell? ⟨w.heap.size,3,none⟩=some (.int .u8 (c:Int))/\w'.cell? ⟨w.heap.size,4,none⟩=some (P0 fb)/\w'.cell? ⟨w.heap.size,5,none⟩=some (P0 tb)/\w'.cell? ⟨w.heap.size,6,none⟩=some (P0 eb)/\w'.cell? ⟨eb,27,none⟩=some (P0 sb)) (first|exact aO.out|exact aW.out|exact aY.out|exact aV.out) (first|(go_at_call 86;refine(pO op a b c fb tb eb cb L nx rb nr back R w4.drew (W.out.kept (bq (ax _ _))).1 (W.out.kept (bq (ax _ _))).2.1 hb).mono ?_;rintro e w5 ⟨rfl,y⟩;have a3:Hid (w4.grownBy w5 none):=⟨y.os,y.tape,y.output,y.size,y.block⟩;have aW:=az (HS.out w5 (dU a3.out));clear y)|(go_at_call 159;refine(aS.out w5 (an G.out a3.out)).mono ?_;rintro e w6 ⟨rfl,aI⟩;have J:=az (an a3.out aI);have aY:=az (HS.out w6 (dU J.out));clear aI)|(go_at_call 149;refine(js op a b c fb tb eb cb L nx rb nr back R aU w6 (W.out.kept J.out).1 (W.out.kept J.out).2.1 ha).mono ?_;rintro e w7 ⟨rfl,Z,aH⟩;have aV:=az (HS.out w7 ((dU (S:=λk=>k=rb) J.out).then Z (ag rfl)));have HR:=az (ay (an (eD (an G.out J.out)) Z) (ay (cm Z (W.out.kept J.out).1 (by intro e;injection e with e;exact KF.out.2.2 e)) aH));clear Z aH))
   all_goals
    go_wp2_with fail
    go_ret;exact ag ⟨aA.out,rfl,HR.out.1,HR.out.2.1,by rw[aN.out,aC.out];exact HR.out.2.2,KF.out.2.2⟩
  have aX:=sv vb.f (R b) (R c);generalize aF:gI vb.f (R b) (R c)=why at *;have aP:=az aF;injection he with he;injection he with he;injection he with a7 o;injection o with o _;injection o with _ o;subst a7 o;have aA:=az H;have aZ:¬((why:Int)=0):=by omega
  clear H aF aX;go_wp2_with fail
  go_ret;exact ab ⟨aA.out,by rw[aP.out];rfl,G.out⟩
end F
section
def pN(ok:Bool)(m:Nat):Int:=if ok=false then 4 else if m=20 then 5 else 0
theorem JS(op a b c fb tb eb sb m ck ff:Nat)(x y i:B.V)(ok:Bool)(ao:Option Addr)(R:World->Prop)(w:World)(hb:∀w1,w.grownBy w1 none->Calls prog 86 #[dZ op a b c fb tb eb] w1 λe w'=>e=.returned (vA x)/\w1.grownBy w' none)(hf:∀w1,w.grownBy w1 none->Calls prog 162 #[P0 sb,vA x] w1 λe w'=>e=.returned (.tuple #[.int .i64 ff,vA i,.bool ok])/\w1.grownBy w' none)(hc:∀w1,w.grownBy w1 none->Calls prog 94 #[dZ op a b c fb tb eb] w1 λe w'=>e=.returned (vA y)/\w1.grownBy w' none)(he:ok=true->m≠20->∀w1,w.grownBy w1 none->Calls prog 119 #[P0 eb,P0 tb,.int .i64 ff,vA y,vA i,.func (.func 149) #[dZ op a b c fb tb eb] #[]] w1 λe w'=>e=.returned (.tuple #[])/\R w'/\∀k,w.heap.size<=k->k<w1.heap.size->w'.heap[k]? = w1.heap[k]?)(h0:∀w1,w.grownBy w1 none->(ok=false\/m=20)->R w1)(aB:w.cell? ⟨eb,27,none⟩=some (P0 sb))(c1:w.cell? ⟨tb,1,none⟩=some (.slice ao m ck)): Calls prog 104 #[dZ op a b c fb tb eb] w λe w'=>e=.returned (.int .i64 (pN ok m))/\R w':=by
 have HB:=az hb;have HF:=az hf;have HC:=az hc;have HE:=az he;have H0:=az h0;have le:=gW aB;have lt:=gW c1;clear hb hf hc he h0;go_in;go_wp2_with fail
 have a8:=az (jf w op a b c fb tb eb);have a5:=az (ah w (.cells #[.int .u8 op,.int .u8 a,.int .u8 b,.int .u8 c,P0 fb,P0 tb,P0 eb] 186) none);generalize hW:w.alloc (.cells #[.int .u8 op,.int .u8 a,.int .u8 b,.int .u8 c,P0 fb,P0 tb,P0 eb] 186)=w1 at *;have aL:Hid (w1.heap.size=w.heap.size+1):=by show _=_;rw[<-hW];simp
 clear hW;have HK:Hid (∀w',w.grownBy w' none->w'.heap[w.heap.size]? = some (lZ op a b c fb tb eb)->w'.cell? ⟨w.heap.size,0,none⟩=some (.int .u8 op)/\w'.cell? ⟨w.heap.size,1,none⟩=some (.int .u8 a)/\w'.cell? ⟨w.heap.size,2,none⟩=some (.int .u8 b)/\w'.cell? ⟨w.heap.size,3,none⟩=some (.int .u8 c)/\w'.cell? ⟨w.heap.size,4,none⟩=some (P0 fb)/\w'.cell? ⟨w.heap.size,5,none⟩=some (P0 tb)/\w'.cell? ⟨w.heap.size,6,none⟩=some (P0 eb)/\w'.cell? ⟨eb,27,none⟩=some (P0 sb)):=λw' hg hx=>by
  obtain⟨x0,x1,x2,x3,x4,x5,x6⟩:=fk hx;exact⟨x0,x1,x2,x3,x4,x5,x6,(bh hg (a:=⟨eb,27,none⟩) le).1.trans aB⟩
 have a4:Hid (∀(w':World) (B:Nat) (u v:Value),w.grownBy w' none->w'.heap[w.heap.size]? = some (lZ op a b c fb tb eb)->w.heap.size<B->w.grownBy ((w'.setCell ⟨B,0,none⟩ u).setCell ⟨B,1,none⟩ v) none/\((w'.setCell ⟨B,0,none⟩ u).setCell ⟨B,1,none⟩ v).heap[w.heap.size]? = some (lZ op a b c fb tb eb)):=λw' B u v hg hx hB=>
  ⟨bp (bp hg (ab (mU hB)) _) (ab (mU hB)) _,((af _ _ _ _ (Nat.ne_of_lt hB)).trans (af _ _ _ _ (Nat.ne_of_lt hB))).trans hx⟩
 have aE:Hid (∀(w':World) (B:Nat) (u v:Value) (hg:w.grownBy w' none) (hx:w'.heap[w.heap.size]? = some (lZ op a b c fb tb eb)) (hB:w.heap.size<B),_):=λw' B u v hg hx hB=>HK _ (a4 w' B u v hg hx hB).1 (a4 w' B u v hg hx hB).2;have HZ:Hid (∀(w':World) (o:Obj) (k:Nat) (o':Obj),w'.heap[k]? = some o'->(w'.alloc o).heap[k]? = some o'):=λw' o k o' hk=>by
  rw[ak _ _ _ (bz hk)];exact hk
 go_region_held3 (λw'=>w'.cell? ⟨w.heap.size,0,none⟩=some (.int .u8 op)/\w'.cell? ⟨w.heap.size,1,none⟩=some (.int .u8 a)/\w'.cell? ⟨w.heap.size,2,none⟩=some (.int .u8 b)/\w'.cell? ⟨w.heap.size,3,none⟩=some (.int .u8 c)/\w'.cell? ⟨w.heap.size,4,none⟩=some (P0 fb)/\w'.cell? ⟨w.heap.size,5,none⟩=some (P0 tb)/\w'.cell? ⟨w.heap.size,6,none⟩=some (P0 eb)/\w'.cell? ⟨eb,27,none⟩=some (P0 sb)) (first|exact HK _ (bq a5) a8|exact HK _ (au (bq a5) _) (HZ _ _ _ _ a8)|exact HK _ a0 a3|exact HK _ (au a0 _) (HZ _ _ _ _ a3)|exact HK _ W Y|exact HK _ (au W _) (HZ _ _ _ _ Y)|exact aE G _ _ _ W Y a1|exact aE _ _ _ _ (au W _) (HZ _ _ _ _ Y) (bz Y)) (first|(go_at_call 86;refine(HB w1.drew (bq a5)).mono ?_;rintro e w2 ⟨rfl,a2⟩;have a0:Hid (w.grownBy w2 none):=an (bq a5) a2;have a3:=az (dp a2 (show w1.drew.heap[w.heap.size]? = _ from a8));clear a2)|(go_at_call 86;refine(HB (w1.drew.alloc (.cells #[.int .i64 0,.int .i64 0] 149)) (au (bq a5) _)).mono ?_;rintro e w2 ⟨rfl,a2⟩;have a0:Hid (w.grownBy w2 none):=an (au (bq a5) _) a2;have a3:=az (dp a2 (HZ w1.drew _ _ _ a8));have aC:Hid (w2.heap[w1.heap.size]? = some (.cells #[.int .i64 0,.int .i64 0] 149 (0,0))):=dp a2 (bf w1.drew _);clear a2)|(go_at_call 162;refine(HF w2 a0).mono ?_;rintro e G ⟨rfl,J⟩;have W:Hid (w.grownBy G none):=an a0 J;have Y:=az (dp J a3);have H:=dp J aC;have a1:Hid (w.heap.size<w1.heap.size):=(by show _<_;rw[aL.out];omega);have r0:G.cell? ⟨w1.heap.size,0,none⟩=some (.int .i64 0):=(by simp[World.cell?,H]);have r1:G.cell? ⟨w1.heap.size,1,none⟩=some (.int .i64 0):=(by simp[World.cell?,H]);have r2:G.frozen? ⟨w1.heap.size,0,none⟩=false:=(by simp[World.frozen?,H]);have r3:G.frozen? ⟨w1.heap.size,1,none⟩=false:=(by simp[World.frozen?,H]);have lB:=bz H;clear H;clear J)|(go_at_call 162;refine(HF w2 a0).mono ?_;rintro e G ⟨rfl,J⟩;have W:Hid (w.grownBy G none):=an a0 J;have Y:=az (dp J a3);clear J)|(go_at_call 162;refine(HF (w2.alloc (.cells #[.int .i64 0,.int .i64 0] 149)) (au a0 _)).mono ?_;rintro e G ⟨rfl,J⟩;have W:Hid (w.grownBy G none):=an (au a0 _) J;have Y:=az (dp J (HZ w2 _ _ _ a3));have H:G.heap[w2.heap.size]? = some (.cells #[.int .i64 0,.int .i64 0] 149 (0,0)):=dp J (bf w2 _);have a1:Hid (w.heap.size<w2.heap.size):=bz a3;have r0:G.cell? ⟨w2.heap.size,0,none⟩=some (.int .i64 0):=(by simp[World.cell?,H]);have r1:G.cell? ⟨w2.heap.size,1,none⟩=some (.int .i64 0):=(by simp[World.cell?,H]);have r2:G.frozen? ⟨w2.heap.size,0,none⟩=false:=(by simp[World.frozen?,H]);have r3:G.frozen? ⟨w2.heap.size,1,none⟩=false:=(by simp[World.frozen?,H]);have lB:=bz H;clear H;clear J))
 all_goals
  first
  |rename_i hh
   clear hh;have Z:Hid (w.grownBy (((G.setCell ⟨w2.heap.size,0,none⟩ (.int .i64 i.1)).setCell ⟨w2.heap.size,1,none⟩ (.int .i64 i.2))) none):=(a4 G _ _ _ W Y a1).1;have a7:Hid ((((G.setCell ⟨w2.heap.size,0,none⟩ (.int .i64 i.1)).setCell ⟨w2.heap.size,1,none⟩ (.int .i64 i.2))).heap[w.heap.size]? = some (lZ op a b c fb tb eb)):=(a4 G _ _ _ W Y a1).2;have u0:(((G.setCell ⟨w2.heap.size,0,none⟩ (.int .i64 i.1)).setCell ⟨w2.heap.size,1,none⟩ (.int .i64 i.2))).cell? ⟨w2.heap.size,0,none⟩=some (.int .i64 i.1):=by simp[go_sem,r0,r1,r2,r3,lB]
   have u1:(((G.setCell ⟨w2.heap.size,0,none⟩ (.int .i64 i.1)).setCell ⟨w2.heap.size,1,none⟩ (.int .i64 i.2))).cell? ⟨w2.heap.size,1,none⟩=some (.int .i64 i.2):=by simp[go_sem,r0,r1,r2,r3,lB]
   clear r0 r1 r2 r3 lB;have lB:=gW u0;have a9:Hid (w.heap.size<=w2.heap.size):=mU a1;generalize ((G.setCell ⟨w2.heap.size,0,none⟩ (.int .i64 i.1)).setCell ⟨w2.heap.size,1,none⟩ (.int .i64 i.2))=w4 at *;generalize w2.heap.size=B at *
  |rename_i hh
   clear hh;have Z:Hid (w.grownBy (((G.setCell ⟨w1.heap.size,0,none⟩ (.int .i64 i.1)).setCell ⟨w1.heap.size,1,none⟩ (.int .i64 i.2))) none):=(a4 G _ _ _ W Y a1).1;have a7:Hid ((((G.setCell ⟨w1.heap.size,0,none⟩ (.int .i64 i.1)).setCell ⟨w1.heap.size,1,none⟩ (.int .i64 i.2))).heap[w.heap.size]? = some (lZ op a b c fb tb eb)):=(a4 G _ _ _ W Y a1).2;have u0:(((G.setCell ⟨w1.heap.size,0,none⟩ (.int .i64 i.1)).setCell ⟨w1.heap.size,1,none⟩ (.int .i64 i.2))).cell? ⟨w1.heap.size,0,none⟩=some (.int .i64 i.1):=by simp[go_sem,r0,r1,r2,r3,lB]
   have u1:(((G.setCell ⟨w1.heap.size,0,none⟩ (.int .i64 i.1)).setCell ⟨w1.heap.size,1,none⟩ (.int .i64 i.2))).cell? ⟨w1.heap.size,1,none⟩=some (.int .i64 i.2):=by simp[go_sem,r0,r1,r2,r3,lB]
   clear r0 r1 r2 r3 lB;have lB:=gW u0;have a9:Hid (w.heap.size<=w1.heap.size):=mU a1;generalize ((G.setCell ⟨w1.heap.size,0,none⟩ (.int .i64 i.1)).setCell ⟨w1.heap.size,1,none⟩ (.int .i64 i.2))=w4 at *;generalize w1.heap.size=B at *
  |rename_i hh
   clear hh;have Z:Hid (w.grownBy ((G.alloc (.cells #[.int .i64 i.1,.int .i64 i.2] 149))) none):=au W _;have a7:Hid (((G.alloc (.cells #[.int .i64 i.1,.int .i64 i.2] 149))).heap[w.heap.size]? = some (lZ op a b c fb tb eb)):=HZ _ _ _ _ Y;have u0:((G.alloc (.cells #[.int .i64 i.1,.int .i64 i.2] 149))).cell? ⟨G.heap.size,0,none⟩=some (.int .i64 i.1):=by simp[go_sem]
   have u1:((G.alloc (.cells #[.int .i64 i.1,.int .i64 i.2] 149))).cell? ⟨G.heap.size,1,none⟩=some (.int .i64 i.2):=by simp[go_sem]
   have lB:=gW u0;have a9:Hid (w.heap.size<=G.heap.size):=W.size;generalize (G.alloc (.cells #[.int .i64 i.1,.int .i64 i.2] 149))=w4 at *;generalize G.heap.size=B at *
 all_goals
  obtain⟨x0,x1,x2,x3,x4,x5,x6⟩:=fk a7;have lx:=bz a7;have d1:=(bh Z (a:=⟨tb,1,none⟩) lt).1.trans c1;have aO:tb<w4.heap.size:=dm lt Z.size;have aN:eb<w4.heap.size:=dm le Z.size
  cases ok with
  |false=>
   go_wp2_with fail
   go_ret;exact⟨rfl,H0 _ Z (ag (by first|rfl|trivial))⟩
  |true=>
   by_cases hm:m=20
   .have aM:(m:Int)=20:=by omega
    have HM:=az hm;clear hm;go_wp2_with fail
    go_ret;exact⟨by rw[HM.out];rfl,H0 _ Z (ab HM)⟩
   have aM:¬((m:Int)=20):=by omega
   have HM:=az hm;clear hm;go_wp2_with fail
   have HS:Hid (∀w',w4.grownBy w' none->w'.cell? ⟨w.heap.size,0,none⟩=some (.int .u8 op)/\w'.cell? ⟨w.heap.size,1,none⟩=some (.int .u8 a)/\w'.cell? ⟨w.heap.size,2,none⟩=some (.int .u8 b)/\w'.cell? ⟨w.heap.size,3,none⟩=some (.int .u8 c)/\w'.cell? ⟨w.heap.size,4,none⟩=some (P0 fb)/\w'.cell? ⟨w.heap.size,5,none⟩=some (P0 tb)/\w'.cell? ⟨w.heap.size,6,none⟩=some (P0 eb)/\w'.cell? ⟨B,0,none⟩=some (.int .i64 i.1)/\w'.cell? ⟨B,1,none⟩=some (.int .i64 i.2)):=λw' hg=>by
    obtain⟨x0,x1,x2,x3,x4,x5,x6⟩:=fk (dp hg a7);exact⟨x0,x1,x2,x3,x4,x5,x6,(bh hg (a:=⟨B,0,none⟩) lB).1.trans u0,(bh hg (a:=⟨B,1,none⟩) lB).1.trans u1⟩
   have aD:Hid (∀w5 w':World,w4.grownBy w5 none->(∀k,w.heap.size<=k->k<w5.heap.size->w'.heap[k]? = w5.heap[k]?)->w'.cell? ⟨w.heap.size,0,none⟩=some (.int .u8 op)/\w'.cell? ⟨w.heap.size,1,none⟩=some (.int .u8 a)/\w'.cell? ⟨w.heap.size,2,none⟩=some (.int .u8 b)/\w'.cell? ⟨w.heap.size,3,none⟩=some (.int .u8 c)/\w'.cell? ⟨w.heap.size,4,none⟩=some (P0 fb)/\w'.cell? ⟨w.heap.size,5,none⟩=some (P0 tb)/\w'.cell? ⟨w.heap.size,6,none⟩=some (P0 eb)/\w'.cell? ⟨B,0,none⟩=some (.int .i64 i.1)/\w'.cell? ⟨B,1,none⟩=some (.int .i64 i.2)):=λw5 w' hg hk=>by
    obtain⟨y0,y1,y2,y3,y4,y5,y6,y7,y8⟩:=HS w5 hg;have hz:=hg.size;have e1:=hk w.heap.size (bj _) (by omega);have e2:=hk B a9 (by omega);exact⟨(aw (a:=⟨w.heap.size,0,none⟩) e1).trans y0,(aw (a:=⟨w.heap.size,1,none⟩) e1).trans y1,(aw (a:=⟨w.heap.size,2,none⟩) e1).trans y2,(aw (a:=⟨w.heap.size,3,none⟩) e1).trans y3,(aw (a:=⟨w.heap.size,4,none⟩) e1).trans y4,(aw (a:=⟨w.heap.size,5,none⟩) e1).trans y5,(aw (a:=⟨w.heap.size,6,none⟩) e1).trans y6,(aw (a:=⟨B,0,none⟩) e2).trans y7,(aw (a:=⟨B,1,none⟩) e2).trans y8⟩
   have aJ:=az (HS w4.drew (bq (ax _ _)));go_region_held3 (λw'=>w'.cell? ⟨w.heap.size,0,none⟩=some (.int .u8 op)/\w'.cell? ⟨w.heap.size,1,none⟩=some (.int .u8 a)/\w'.cell? ⟨w.heap.size,2,none⟩=some (.int .u8 b)/\w'.cell? ⟨w.heap.size,3,none⟩=some (.int .u8 c)/\w'.cell? ⟨w.heap.size,4,none⟩=some (P0 fb)/\w'.cell? ⟨w.heap.size,5,none⟩=some (P0 tb)/\w'.cell? ⟨w.heap.size,6,none⟩=some (P0 eb)/\w'.cell? ⟨B,0,none⟩=some (.int .i64 i.1)/\w'.cell? ⟨B,1,none⟩=some (.int .i64 i.2)) (first|exact aJ|exact aK|exact aH) (first|(go_at_call 94;refine(HC w4.drew (bq Z)).mono ?_;rintro e w5 ⟨rfl,a6⟩;have aA:Hid (w4.grownBy w5 none):=⟨a6.os,a6.tape,a6.output,a6.size,a6.block⟩;have aK:=az (HS w5 aA);clear a6)|(go_at_call 119;refine(HE (by first|rfl|trivial) HM w5 (an Z aA)).mono ?_;rintro e w6 ⟨rfl,aF,aG⟩;have aI:=az aF;have aH:=az (aD w5 w6 aA aG);clear aF aG))
   all_goals
    go_wp2_with fail
    go_ret;exact⟨by have h:=HM.out;simp[pN,h],aI⟩
def Cj(ok : Bool) (m mt : Nat) : Int := if ok = false then 4 else if m = mt then 7 else 0
end
namespace F
structure gY where
 f:Nat
 nx:Nat
 R:Nat->B.V
 bk:Nat×Nat×Nat×Nat
structure oT where
 fr:List gY
 run:Bool
 wh:Option (Nat×Nat)
 lf:Option (Nat×Nat×Nat×Nat)
 iL:Int
structure Pl where
 nt:Nat
 T:Nat->oT
 q:Nat->Nat->List Nat
 lv:List Nat
 out:List B.V
 kp:List B.V
 ev:List se
 jo:Nat->List Nat
 sp:Bool
 eY:Int
 kd:B.Kd
 M:Nat->List B.V
 ck:Nat->Nat
structure eE where
 tb:Nat->Nat
 ro:Nat->Nat->Option Addr×Nat
 fb:Nat->Nat->Nat
 rb:Nat->Nat->Nat
 xe:Nat->Nat
 xt:Nat->Nat
 sx:Nat->Nat
 vf:Nat->Nat
 cb:Nat
 rd:Nat
 ad:Option Addr
 cap:Nat
structure dz where
 eb:Nat
 sb:Nat
 pb:Nat
 n:Nat
 nf:Nat
 gb:Nat
 cb:Nat->Nat
 len:Nat->Nat
 rg:Nat->Nat
 ins:Nat->Nat->Nat×Nat×Nat×Nat
 qn:Nat
 wk:Nat
 mt:Nat
 ac:Nat
 E0:Nat->Value
 fx:Nat->Prop
 fc:Nat->Option Obj
structure Ob where
 bs:Nat->Prop
 ok:World->Prop
 fr:∀w w':World,ok w->(∀k,bs k->w'.heap[k]? = w.heap[k]?)->ok w'
 lt:∀(w:World) (k:Nat),ok w->bs k->k<w.heap.size
def Ob.nil:Ob:=⟨λ_=>False,λ_=>True,λ_ _ h _=>h,λ_ _ _ h=>h.elim⟩
def Ob.full(b:Nat)(T:TypeId)(N:Nat)(E:Nat->Value):Ob:=⟨λk=>k=b,λw=>Full w b T N N E,λ_ _ h hk=>h.block (hk b rfl),λ_ _ h e=>by rw[e];exact h.lt⟩
def Ob.one(b:Nat)(o:Obj):Ob:=⟨λk=>k=b,λw=>w.heap[b]? = some o,λ_ _ h hk=>(hk b rfl).trans h,λ_ _ h e=>by rw[e];exact bz h⟩
def Ob.row(T:TypeId)(sz:Nat)(ad:Option Addr)(n c:Nat)(xs:List Value):Ob:=⟨λk=>eO ad=some k,λw=>w.ownsRow 0 T sz (.slice ad n c) n xs,λ_ _ h hk=>dD h (λk e=>hk k (by rw[<-dr ad n c];exact e)),λ_ k h e=>(dA h k (by rw[dr];exact e)).2.1⟩
theorem jm.slt{w:World}{sb pb eb n:Nat}{kd:B.Kd}{vb:Vs}{M:Nat->List B.V}(h:jm w sb pb eb n kd vb M)(k:Nat)(e:pP sb pb n kd vb k):k<w.heap.size:=by
 rcases e with rfl|rfl|e
 .exact bz h.b
 .exact h.p.p.lt
 exact h.lt k e
def Ob.str(sb pb eb n:Nat)(kd:B.Kd)(vb:Vs)(M:Nat->List B.V):Ob:=⟨pP sb pb n kd vb,λw=>jm w sb pb eb n kd vb M,λ_ _ h hk=>h.block (hk sb (ag rfl)) (hk pb (ab (ag rfl))) (λk h=>hk k (ab (ab h))),λ_ k h e=>h.slt k e⟩
theorem Ht(F:Nat->Prop)(C:Nat->Option Obj)(w w':World)(h:∀k,F k->k<w.heap.size/\w.heap[k]? = C k)(u:∀k,F k->w'.heap[k]? = w.heap[k]?)(k:Nat)(i:F k):k<w'.heap.size/\w'.heap[k]? = C k:=by
 have e:=u k i;refine⟨?_,e.trans (h k i).2⟩;rcases Nat.lt_or_ge k w'.heap.size with o|o
 .exact o
 rw[Array.getElem?_eq_none o]at e;have:=Array.getElem?_eq_getElem (h k i).1;rw[this]at e
 cases e
def Ob.fix(F:Nat->Prop)(C:Nat->Option Obj):Ob:=⟨F,λw=>∀k,F k->k<w.heap.size/\w.heap[k]? = C k,Ht F C,λ_ k h e=>(h k e).1⟩
def eH(s:Pl)(x y:Nat):Nat:=
 if x=6 then s.lv.length else if x=7 then s.out.length else if x=8 then s.kp.length else if x=9 then s.ev.length else if x=10 then(s.jo y).length else if x=12 then(s.T y).fr.length else(s.q x y).length
def fU(s:Pl)(g:eE)(x y:Nat):List Value:=
 if x=6 then(s.lv.map g.tb).map P0 else if x=7 then fT s.out else if x=8 then fT s.kp else if x=9 then kE s.ev else if x=10 then Ie (s.jo y) else if x=12 then((List.range (s.T y).fr.length).map (g.fb y)).map P0 else((s.q x y).map g.tb).map P0
def zA(x:Nat):TypeId:=if x=7 then 149 else if x=8 then 149 else if x=9 then 48 else if x=10 then 5 else if x=12 then 184 else 155
def zB(x:Nat):Nat:=if x=7 then 2 else if x=8 then 2 else if x=9 then 3 else 1
def sl(s:Pl)(g:eE)(x y:Nat):Value:=.slice (g.ro x y).1 (eH s x y) (g.ro x y).2
def kN(j:Nat):Nat×Nat:=if j=29 then(6,0) else if j=30 then(7,0) else if j=31 then(8,0) else if j=32 then(2,0) else if j=33 then(3,0) else if j=43 then(9,0) else if j % 2=0 then(10,(j-34) / 2) else(4,(j-34) / 2)
def iJ(p:dz)(s:Pl)(g:eE)(j:Nat):Value:=
 if j<28 then p.E0 j else if j=28 then .int .i64 s.eY else if j=42 then .bool s.sp else sl s g (kN j).1 (kN j).2
def tP(p:dz)(g:eE)(x y:Nat):Nat:=if x=5 then g.tb y else p.eb
def wg(x y:Nat):Nat:=if x=5 then 6 else if x=2 then 32 else if x=3 then 33 else 35+2*y
def x8(p:dz)(g:eE)(h:Option (Nat×Nat)):Value:=match h with
 | none=>.pointer none
 | some (x,y)=>Pt (tP p g x y) (wg x y)
def Ba(g:eE)(t:Nat)(h:Option (Nat×Nat×Nat×Nat)):Value:=match h with
 | none=>.nilFunc
 | some _=>Fv 207 #[P0 (g.sx t)]
def gE(p:dz)(s:Pl)(g:eE)(t j:Nat):Value:=
 if j=0 then .int .i64 (t:Int) else if j=1 then sl s g 12 t else if j=2 then .bool (s.T t).run else if j=3 then x8 p g (s.T t).wh else if j=4 then Ba g t (s.T t).lf else if j=5 then .int .i64 (s.T t).iL else sl s g 5 t
def wj(p:dz)(g:eE)(t i:Nat)(bk:Nat×Nat×Nat×Nat):Value:=if i=0 then Fv 120 #[P0 (g.xe t),P0 (g.xt t)] else .func (.func 149) #[dZ bk.1 bk.2.1 bk.2.2.1 bk.2.2.2 (g.fb t (i-1)) (g.tb t) p.eb] #[]
def mr:gY:=⟨0,0,λ_=>(0,0),(0,0,0,0)⟩
def de(s:Pl)(t i:Nat):gY:=(s.T t).fr.getD i mr
def yf(p:dz)(g:eE)(t i:Nat)(f:gY):Obj:=ij (p.cb f.f) (p.len f.f) f.nx (g.rb t i) (p.rg f.f) (wj p g t i f.bk)
def ye(p:dz)(s:Pl)(g:eE)(t:Nat):Obj:=match (s.T t).lf with
 | none=>.cells #[] 0 (0,0)
 | some k=>lZ k.1 k.2.1 k.2.2.1 k.2.2.2 (g.fb t ((s.T t).fr.length-1)) (g.tb t) p.eb
def jn(s:Pl)(g:eE):Vs:=⟨⟨g.vf,s.ck⟩,g.cb,g.rd,g.ad,g.cap⟩
def gu(s:Pl)(x y z:Nat):Bool:=
 if x<=1\/x=2\/x=3\/(6<=x/\x<=9)\/x=18 then decide (y=0/\z=0)
 else if x=4\/x=10 then decide (y<4/\z=0)
 else if x=5\/x=11\/x=12\/x=15\/x=16 then decide (1<=y/\y<=s.nt/\z=0)
 else if x=17 then decide (1<=y/\y<=s.nt/\z=0) && (s.T y).lf.isSome
 else if x=13\/x=14 then decide (1<=y/\y<=s.nt/\z<(s.T y).fr.length)
 else false
def FX(p:dz)(s:Pl)(g:eE)(x y z:Nat):Ob:=
 if x=0 then .full p.eb 144 44 (iJ p s g)
 else if x=1 then .str p.sb p.pb p.eb p.n s.kd (jn s g) s.M
 else if x=11 then .full (g.tb y) 160 7 (gE p s g y)
 else if x=13 then .one (g.fb y z) (yf p g y z (de s y z))
 else if x=14 then .full (g.rb y z) 149 (p.rg (de s y z).f*2) (eC (de s y z).R)
 else if x=15 then .one (g.xe y) (.cells #[P0 p.eb] 95 (0,0))
 else if x=16 then .one (g.xt y) (.cells #[P0 (g.tb y)] 155 (0,0))
 else if x=17 then .one (g.sx y) (ye p s g y)
 else if x=18 then .fix p.fx p.fc
 else .row (zA x) (zB x) (g.ro x y).1 (eH s x y) (g.ro x y).2 (fU s g x y)
def ob(p:dz)(s:Pl)(g:eE)(x y z:Nat):Ob:=if gu s x y z=true then FX p s g x y z else .nil
structure dQ(p:dz) (s:Pl) (g:eE) (w:World):Prop where
 o:∀x y z,(ob p s g x y z).ok w
 i:∀x y z x' y' z' k,(ob p s g x y z).bs k->(ob p s g x' y' z').bs k->x=x'/\y=y'/\z=z'
def ey(p:dz)(s:Pl)(g:eE)(k:Nat):Prop:=∃x y z,(ob p s g x y z).bs k
def fe(s:Pl)(t:Nat):Prop:=1<=t/\t<=s.nt
structure Tr(p:dz) (s:Pl) (g:eE) (w:World) (s':Pl) (g':eE) (w':World):Prop where
 r:dQ p s' g' w'
 o:dy (ey p s g) w w'
 m:∀k,ey p s' g' k->ey p s g k\/w.heap.size<=k
 n:s.nt<=s'.nt
 t:∀u,fe s u->g'.tb u=g.tb u
theorem dQ.lt{p:dz}{s:Pl}{g:eE}{w:World}(h:dQ p s g w){k:Nat}(e:ey p s g k):k<w.heap.size:=by
 obtain⟨x,y,z,e⟩:=e;exact(ob p s g x y z).lt w k (h.o x y z) e
theorem dQ.only{p:dz}{s:Pl}{g:eE}{w w':World}(h:dQ p s g w){S:Nat->Prop}(u:dy S w w')(hS:∀k,ey p s g k->¬S k):dQ p s g w':=
 ⟨λx y z=>(ob p s g x y z).fr w w' (h.o x y z) (λk e=>u.same (h.lt ⟨x,y,z,e⟩) (hS k ⟨x,y,z,e⟩)),h.i⟩
theorem dQ.kept{p:dz}{s:Pl}{g:eE}{w w':World}(h:dQ p s g w)(e:w.grownBy w' none):dQ p s g w':=h.only (S:=λ_=>False) (dU e) (λ_ _ h=>h)
theorem Tr.refl{p:dz}{s:Pl}{g:eE}{w:World}(h:dQ p s g w):Tr p s g w s g w:=⟨h,dk _ _,λ_ h=>ag h,bj _,λ_ _=>rfl⟩
theorem Tr.trans{p:dz}{s s' i:Pl}{g g' g'':eE}{w w' w'':World}(h:Tr p s g w s' g' w')(e:Tr p s' g' w' i g'' w''):Tr p s g w i g'' w'':=
 ⟨e.r,h.o.trans e.o (λk y J=>(h.m k y).resolve_right (by omega)),λk y=>by
  rcases e.m k y with H|H
  .exact h.m k H
  have:=h.o.size;exact ab (by omega),dH h.n e.n,λu G=>(e.t u ⟨G.1,dH G.2 h.n⟩).trans (h.t u G)⟩
theorem Tr.kept{p:dz}{s s':Pl}{g g':eE}{w w' w'':World}(h:Tr p s g w s' g' w')(e:w'.grownBy w'' none):Tr p s g w s' g' w'':=⟨h.r.kept e,h.o.gR e,h.m,h.n,h.t⟩
theorem Tr.ahead{p:dz}{s s':Pl}{g g':eE}{w0 w w':World}(e:w0.grownBy w none)(h:Tr p s g w s' g' w'):Tr p s g w0 s' g' w':=
 ⟨h.r,(dU e).trans h.o (λ_ h _=>h),λk i=>(h.m k i).imp id (λh=>by have:=e.size;omega),h.n,h.t⟩
theorem Tr.other{p:dz}{s s':Pl}{g g':eE}{w w':World}(h:Tr p s g w s' g' w'){k:Nat}{o:Obj}(e:w.heap[k]? = some o)(hn:¬ey p s g k):w'.heap[k]? = some o/\¬ey p s' g' k:=
 ⟨h.o.block e hn,λi=>(h.m k i).elim hn (λu=>by have:=bz e;omega)⟩
theorem Tr.to{p:dz}{s0 s s':Pl}{g0 g g':eE}{w0 w w':World}(C:Nat->Nat->Nat->Prop)(own:Nat->Nat×Nat×Nat)(H:Tr p s0 g0 w0 s g w)(hO:dy (λk=>∃x y z,C x y z/\(ob p s g x y z).bs k) w w')(h1:∀x y z,¬C x y z->ob p s' g' x y z=ob p s g x y z)(h2:∀x y z,C x y z->(ob p s' g' x y z).ok w')(h3:∀x y z k,C x y z->(ob p s' g' x y z).bs k->(ob p s g x y z).bs k\/(¬ey p s g k/\w0.heap.size<=k/\own k=(x,y,z)))(hn:s.nt<=s'.nt:=by first|exact bj _|omega)(Y:∀u,fe s u->g'.tb u=g.tb u:=by intros;rfl):Tr p s0 g0 w0 s' g' w':=by
 have h:=H.r;have G:=λx y z k e=>by
  by_cases J:C x y z
  .exact h3 x y z k J e
  rw[h1 x y z J]at e;exact ag e
 refine⟨⟨λx y z=>?_,λx y z x' y' z' k e W=>?_⟩,H.o.trans hO (λk e hl=>?_),λk e=>?_,dH H.n hn,λu Z=>(Y u ⟨Z.1,dH Z.2 H.n⟩).trans (H.t u Z)⟩
 .by_cases J:C x y z
  .exact h2 x y z J
  rw[h1 x y z J];refine(ob p s g x y z).fr w w' (h.o x y z) (λk e=>hO.same (h.lt ⟨x,y,z,e⟩) ?_);rintro⟨a,b,c,hc,Y⟩;obtain⟨rfl,rfl,rfl⟩:=h.i _ _ _ _ _ _ k e Y;exact J hc
 .rcases G _ _ _ k e with a|⟨a,_,b⟩
  .rcases G _ _ _ k W with c|⟨c,_⟩
   .exact h.i _ _ _ _ _ _ k a c
   exact ch ⟨_,_,_,a⟩ c
  rcases G _ _ _ k W with c|⟨c,_,d⟩
  .exact ch ⟨_,_,_,c⟩ a
  rw[b]at d;injection d with d1 d2;injection d2 with d2 d3;exact⟨d1,d2,d3⟩
 .obtain⟨x,y,z,_,Y⟩:=e;exact(H.m k ⟨x,y,z,Y⟩).resolve_right (by omega)
 obtain⟨x,y,z,e⟩:=e;rcases G x y z k e with h|h
 .exact H.m k ⟨x,y,z,h⟩
 exact ab h.2.1
theorem dQ.to{p:dz}{s s':Pl}{g g':eE}{w w':World}(C:Nat->Nat->Nat->Prop)(own:Nat->Nat×Nat×Nat)(h:dQ p s g w)(o:dy (λk=>∃x y z,C x y z/\(ob p s g x y z).bs k) w w')(i:∀x y z,¬C x y z->ob p s' g' x y z=ob p s g x y z)(W:∀x y z,C x y z->(ob p s' g' x y z).ok w')(J:∀x y z k,C x y z->(ob p s' g' x y z).bs k->(ob p s g x y z).bs k\/(w.heap.size<=k/\own k=(x,y,z)))(hn:s.nt<=s'.nt:=by first|exact bj _|omega)(H:∀u,fe s u->g'.tb u=g.tb u:=by intros;rfl):Tr p s g w s' g' w':=
 Tr.to C own (Tr.refl h) o i W (λx y z k Y e=>(J x y z k Y e).imp id (λG=>⟨λZ=>by have:=h.lt Z;omega,G⟩)) hn H
end F
namespace F
def eQ(x:Nat):Prop:=2<=x/\x<=12/\x≠11
theorem gG{s:Pl}{x t:Nat}(hx:x=5\/x=11\/x=12\/x=15\/x=16)(ht:fe s t):gu s x t 0=true:=by
 unfold gu;rw[aa (by omega),aa (by omega),aj hx];simp[ht.1,ht.2]
theorem iq{s:Pl}{x:Nat}(hx:x<=1\/x=2\/x=3\/(6<=x/\x<=9)\/x=18):gu s x 0 0=true:=by
 unfold gu;rw[aj hx];rfl
theorem II{s:Pl}{x k:Nat}(hx:x=4\/x=10)(e:k<4):gu s x k 0=true:=by
 unfold gu;rw[aa (by omega),aj hx];simp[e]
theorem ns{s:Pl}{x t i:Nat}(hx:x=13\/x=14)(ht:fe s t)(hi:i<(s.T t).fr.length):gu s x t i=true:=by
 unfold gu;rw[aa (by omega),aa (by omega),aa (by omega),aa (by omega),aj hx];simp[ht.1,ht.2,hi]
theorem Gv{s:Pl}{t:Nat}(ht:fe s t)(e:(s.T t).lf.isSome=true):gu s 17 t 0=true:=by
 unfold gu;rw[aa (by omega),aa (by omega),aa (by omega),aj rfl];simp[ht.1,ht.2,e]
theorem gH{p:dz}{s:Pl}{g:eE}{x y z:Nat}(h:gu s x y z=true):ob p s g x y z=FX p s g x y z:=aj h
theorem vq{p:dz}{s:Pl}{g:eE}{x y z:Nat}(h:¬gu s x y z=true):ob p s g x y z=.nil:=aa h
theorem gk{p:dz}{s:Pl}{g:eE}{x y z:Nat}(hx:eQ x):FX p s g x y z=.row (zA x) (zB x) (g.ro x y).1 (eH s x y) (g.ro x y).2 (fU s g x y):=by
 obtain⟨o,i,e⟩:=hx;unfold FX;rw[aa (by omega),aa (by omega),aa (by omega),aa (by omega),aa (by omega),aa (by omega),aa (by omega),aa (by omega),aa (by omega)]
theorem Kh{p:dz}{s:Pl}{g:eE}{x y z:Nat}(hx:18<x):ob p s g x y z=.nil:=by
 refine vq ?_;unfold gu;rw[aa (by omega),aa (by omega),aa (by omega),aa (by omega),aa (by omega)];simp
section
variable {p : dz} {s : Pl} {g : eE} {w : World} (h : dQ p s g w)
include h
theorem dQ.E:Full w p.eb 144 44 44 (iJ p s g):=h.o 0 0 0
theorem dQ.S:jm w p.sb p.pb p.eb p.n s.kd (jn s g) s.M:=h.o 1 0 0
theorem dQ.X:∀k,p.fx k->k<w.heap.size/\w.heap[k]? = p.fc k:=h.o 18 0 0
theorem dQ.row{x y:Nat}(hx:eQ x)(e:gu s x y 0=true):w.ownsRow 0 (zA x) (zB x) (sl s g x y) (eH s x y) (fU s g x y):=by
 have:=h.o x y 0;rw[gH e,gk hx]at this;exact this
theorem dQ.tk{t:Nat}(ht:fe s t):Full w (g.tb t) 160 7 7 (gE p s g t):=by
 have:=h.o 11 t 0;rw[gH (gG (by omega) ht)]at this;exact this
theorem dQ.fr{t i:Nat}(ht:fe s t)(hi:i<(s.T t).fr.length):w.heap[g.fb t i]? = some (yf p g t i (de s t i)):=by
 have:=h.o 13 t i;rw[gH (ns (by omega) ht hi)]at this;exact this
theorem dQ.rg{t i:Nat}(ht:fe s t)(hi:i<(s.T t).fr.length):Full w (g.rb t i) 149 (p.rg (de s t i).f*2) (p.rg (de s t i).f*2) (eC (de s t i).R):=by
 have:=h.o 14 t i;rw[gH (ns (by omega) ht hi)]at this;exact this
theorem dQ.xe{t:Nat}(ht:fe s t):w.heap[g.xe t]? = some (.cells #[P0 p.eb] 95 (0,0)):=by
 have:=h.o 15 t 0;rw[gH (gG (by omega) ht)]at this;exact this
theorem dQ.xt{t:Nat}(ht:fe s t):w.heap[g.xt t]? = some (.cells #[P0 (g.tb t)] 155 (0,0)):=by
 have:=h.o 16 t 0;rw[gH (gG (by omega) ht)]at this;exact this
theorem dQ.sx{t:Nat}(ht:fe s t){k:Nat×Nat×Nat×Nat}(i:(s.T t).lf=some k):w.heap[g.sx t]? = some (lZ k.1 k.2.1 k.2.2.1 k.2.2.2 (g.fb t ((s.T t).fr.length-1)) (g.tb t) p.eb):=by
 have:=h.o 17 t 0;rw[gH (Gv ht (by rw[i];rfl))]at this;have e:w.heap[g.sx t]? = some (ye p s g t):=this;unfold ye at e;rw[i]at e;exact e
theorem dQ.ne{x y z x' y' z' k o:Nat}(u:(ob p s g x y z).bs k)(e:(ob p s g x' y' z').bs o)(hn:¬(x=x'/\y=y'/\z=z')):k≠o:=by
 rintro rfl;exact hn (h.i _ _ _ _ _ _ k u e)
theorem dQ.ny{t u:Nat}(ht:fe s t)(e:fe s u)(he:g.tb t=g.tb u):t=u:=by
 have a:(ob p s g 11 t 0).bs (g.tb t):=by rw[gH (gG (by omega) ht)];exact rfl
 have b:(ob p s g 11 u 0).bs (g.tb t):=by rw[gH (gG (by omega) e)];exact he
 exact(h.i _ _ _ _ _ _ _ a b).2.1
end
theorem kQ(p:dz){s:Pl}(g:eE){t:Nat}(ht:fe s t)(k:Nat):(ob p s g 11 t 0).bs k=(k=g.tb t):=by rw[gH (gG (by omega) ht)];rfl
theorem fR(p:dz){s:Pl}(g:eE){x y:Nat}(hx:eQ x)(e:gu s x y 0=true)(k:Nat):(ob p s g x y 0).bs k=(eO (g.ro x y).1=some k):=by rw[gH e,gk hx];rfl
theorem uM{s:Pl}{x y z:Nat}(h:gu s x y z=true):x<=18:=by
 rcases Nat.lt_or_ge 18 x with e|e
 .have i:gu s x y z=false:=by
   unfold gu;rw[aa (by omega),aa (by omega),aa (by omega),aa (by omega),aa (by omega)]
  rw[i]at h;cases h
 exact e
theorem jZ{s:Pl}{x y z:Nat}(h:gu s x y z=true)(hx:x<=1\/x=2\/x=3\/(6<=x/\x<=9)\/x=18):y=0/\z=0:=by
 unfold gu at h;rw[aj hx]at h;simpa using h
theorem jq{s:Pl}{x y z:Nat}(h:gu s x y z=true)(hx:x=5\/x=11\/x=12\/x=15\/x=16):fe s y/\z=0:=by
 unfold gu at h;rw[aa (by omega),aa (by omega),aj hx]at h;have:=dO h;exact⟨⟨this.1,this.2.1⟩,this.2.2⟩
theorem yk{s:Pl}{x y z:Nat}(h:gu s x y z=true)(hx:x=4\/x=10):y<4/\z=0:=by
 unfold gu at h;rw[aa (by omega),aj hx]at h;exact dO h
theorem ld{s:Pl}{y z:Nat}(h:gu s 17 y z=true):fe s y/\z=0/\(s.T y).lf.isSome=true:=by
 unfold gu at h;rw[aa (by omega),aa (by omega),aa (by omega),aj rfl,Bool.and_eq_true]at h;have:=dO h.1;exact⟨⟨this.1,this.2.1⟩,this.2.2,h.2⟩
theorem lI{s:Pl}{x y z:Nat}(h:gu s x y z=true)(hx:x=13\/x=14):fe s y/\z<(s.T y).fr.length:=by
 unfold gu at h;rw[aa (by omega),aa (by omega),aa (by omega),aa (by omega),aj hx]at h;have:=dO h;exact⟨⟨this.1,this.2.1⟩,this.2.2⟩
theorem pW{s:Pl}{x y z:Nat}(h:gu s x y z=true)(hx:eQ x):z=0:=by
 obtain⟨o,i,e⟩:=hx;by_cases a:x=4\/x=10
 .exact(yk h a).2
 by_cases b:x=5\/x=12
 .exact(jq h (by omega)).2
 exact(jZ h (by omega)).2
theorem nu{s s':Pl}{x y z:Nat}(hn:s'.nt=s.nt)(i:(s'.T y).fr.length=(s.T y).fr.length)(o:x=17->z=0->(s'.T y).lf.isSome=(s.T y).lf.isSome):gu s' x y z=gu s x y z:=by
 unfold gu;rw[hn,i];by_cases h:x=17
 .by_cases hz:z=0
  .rw[o h hz]
  have:¬(1<=y/\y<=s.nt/\z=0):=λe=>hz e.2.2;simp[this]
 simp[h]
theorem jT{p:dz}{s s':Pl}{g g':eE}{x y z:Nat}(o:gu s' x y z=gu s x y z)(i:gu s x y z=true->FX p s' g' x y z=FX p s g x y z):ob p s' g' x y z=ob p s g x y z:=by
 unfold ob;rw[o];by_cases e:gu s x y z=true
 .rw[aj e,aj e,i e]
 rw[aa e,aa e]
theorem lL{p:dz}{s s':Pl}{g g':eE}{x y z:Nat}(Z:gu s x y z=true)(h0:x=0->iJ p s' g'=iJ p s g)(Y:x=1->s'.kd=s.kd/\jn s' g'=jn s g/\s'.M=s.M)(u:x=11->g'.tb y=g.tb y/\gE p s' g' y=gE p s g y)(i:x=13->g'.fb y z=g.fb y z/\yf p g' y z (de s' y z)=yf p g y z (de s y z))(J:x=14->g'.rb y z=g.rb y z/\de s' y z=de s y z)(G:x=15->g'.xe y=g.xe y)(H:x=16->g'.xt y=g.xt y/\g'.tb y=g.tb y)(o:x=17->g'.sx y=g.sx y/\ye p s' g' y=ye p s g y)(W:eQ x->g'.ro x y=g.ro x y/\eH s' x y=eH s x y/\fU s' g' x y=fU s g x y):FX p s' g' x y z=FX p s g x y z:=by
 have a0:=uM Z;by_cases e:eQ x
 .obtain⟨a,b,c⟩:=W e;rw[gk e,gk e,a,b,c]
 have hc:x=0\/x=1\/x=11\/x=13\/x=14\/x=15\/x=16\/x=17\/x=18:=by unfold eQ at e;omega
 rcases hc with rfl|rfl|rfl|rfl|rfl|rfl|rfl|rfl|rfl
 .show Ob.full p.eb 144 44 (iJ p s' g')=Ob.full p.eb 144 44 (iJ p s g);rw[h0 rfl]
 .obtain⟨a,b,c⟩:=Y rfl;show Ob.str p.sb p.pb p.eb p.n s'.kd (jn s' g') s'.M=Ob.str p.sb p.pb p.eb p.n s.kd (jn s g) s.M;rw[a,b,c]
 .obtain⟨a,b⟩:=u rfl;show Ob.full (g'.tb y) 160 7 (gE p s' g' y)=Ob.full (g.tb y) 160 7 (gE p s g y);rw[a,b]
 .obtain⟨a,b⟩:=i rfl;show Ob.one (g'.fb y z) (yf p g' y z (de s' y z))=Ob.one (g.fb y z) (yf p g y z (de s y z));rw[a,b]
 .obtain⟨a,b⟩:=J rfl;show Ob.full (g'.rb y z) 149 (p.rg (de s' y z).f*2) (eC (de s' y z).R)=Ob.full (g.rb y z) 149 (p.rg (de s y z).f*2) (eC (de s y z).R);rw[a,b]
 .show Ob.one (g'.xe y) _=Ob.one (g.xe y) _;rw[G rfl]
 .obtain⟨a,b⟩:=H rfl;show Ob.one (g'.xt y) (.cells #[P0 (g'.tb y)] 155 (0,0))=Ob.one (g.xt y) (.cells #[P0 (g.tb y)] 155 (0,0));rw[a,b]
 .obtain⟨a,b⟩:=o rfl;show Ob.one (g'.sx y) (ye p s' g' y)=Ob.one (g.sx y) (ye p s g y);rw[a,b]
 rfl
def Lu(v:Nat×Nat):Nat:=if v.1=6 then 29 else if v.1=7 then 30 else if v.1=8 then 31 else if v.1=2 then 32 else if v.1=3 then 33 else if v.1=9 then 43 else if v.1=10 then 34+2*v.2 else 35+2*v.2
theorem DH(j:Nat)(i:j<44)(e:29<=j)(o:j≠42):Lu (kN j)=j:=by
 unfold kN;split
 .subst j;rfl
 split
 .subst j;rfl
 split
 .subst j;rfl
 split
 .subst j;rfl
 split
 .subst j;rfl
 split
 .subst j;rfl
 split
 .show 34+2*((j-34) / 2)=j;omega
 show 35+2*((j-34) / 2)=j;omega
theorem tD(j:Nat)(y:j<44)(e:Nat)(u:e<44)(o:29<=j)(i:j≠42)(H:29<=e)(G:e≠42)(h:kN j=kN e):j=e:=by
 rw[<-DH j y o i,h,DH e u H G]
theorem tB(j:Nat):eQ (kN j).1/\(kN j).1≠5/\(kN j).1≠12/\((kN j).1=4\/(kN j).1=10\/(kN j).2=0):=by
 unfold kN eQ;refine⟨⟨?_,?_,?_⟩,?_,?_,?_⟩<;>(repeat' split)<;>simp
theorem xQ{p:dz}{s s':Pl}{g g':eE}{x y j0:Nat}(J:kN j0=(x,y))(i:29<=j0/\j0<44/\j0≠42)(Z:∀a b,¬(a=x/\b=y)->eQ a->a≠5->a≠12->(a=4\/a=10\/b=0)->sl s' g' a b=sl s g a b)(Y:s'.eY=s.eY)(hp:s'.sp=s.sp)(j:Nat)(W:j<44): ep (iJ p s g) j0 (sl s' g' x y) j=iJ p s' g' j:=by
 by_cases e:j=j0
 .subst e;rw[gf];unfold iJ;rw[aa (by omega),aa (by omega),aa (by omega),J]
 rw[eG _ _ _ _ e];unfold iJ;by_cases G:j<28
 .rw[aj G,aj G]
 rw[aa G,aa G];by_cases u:j=28
 .rw[aj u,aj u,Y]
 rw[aa u,aa u];by_cases o:j=42
 .rw[aj o,aj o,hp]
 rw[aa o,aa o];have hn:=tB j;exact(Z _ _ (λH=>e (tD j W j0 i.2.1 (by omega) o i.1 i.2.2 (by rw[J];exact fV H.1 H.2))) hn.1 hn.2.1 hn.2.2.1 hn.2.2.2).symm
theorem jL{p:dz}{s s':Pl}{g g':eE}(i:∀a b,eQ a->a≠5->a≠12->(a=4\/a=10\/b=0)->sl s' g' a b=sl s g a b)(e:s'.eY=s.eY)(o:s'.sp=s.sp):iJ p s' g'=iJ p s g:=by
 fB j
 have hn:=tB j;unfold iJ;rw[e,o,i _ _ hn.1 hn.2.1 hn.2.2.1 hn.2.2.2]
def fz(s:Pl)(x y:Nat):Prop:=(x=2/\y=0)\/(x=3/\y=0)\/(x=4/\y<4)\/(x=5/\fe s y)
def EU(x:Nat):TypeId:=if x=5 then 160 else 144
def FZ(x:Nat):Nat:=if x=5 then 7 else 44
def Hb(p:dz)(s:Pl)(g:eE)(x y:Nat):Nat->Value:=if x=5 then gE p s g y else iJ p s g
theorem pE{s:Pl}{x y:Nat}(h:fz s x y):2<=x/\x<=5:=by
 rcases h with⟨rfl,rfl⟩|⟨rfl,rfl⟩|⟨rfl,h⟩|⟨rfl,h⟩<;>omega
theorem mO{s:Pl}{x y:Nat}(h:fz s x y)(e:x=5):fe s y:=by
 rcases h with⟨rfl,rfl⟩|⟨rfl,rfl⟩|⟨rfl,h⟩|⟨rfl,h⟩
 .cases e
 .cases e
 .cases e
 exact h
theorem xv{s:Pl}{x y:Nat}(h:fz s x y):eQ x:=by have:=pE h;unfold eQ;omega
theorem vu{s:Pl}{x y:Nat}(h:fz s x y):gu s x y 0=true:=by
 rcases h with⟨rfl,rfl⟩|⟨rfl,rfl⟩|⟨rfl,h⟩|⟨rfl,h⟩
 .exact iq (by omega)
 .exact iq (by omega)
 .exact II (by omega) h
 exact gG (by omega) h
theorem pD{s:Pl}{x y:Nat}(h:fz s x y):zA x=155/\zB x=1:=by
 unfold zA zB;rcases h with⟨rfl,rfl⟩|⟨rfl,rfl⟩|⟨rfl,h⟩|⟨rfl,h⟩<;>exact⟨rfl,rfl⟩
theorem mj{s:Pl}(s':Pl){x y:Nat}(h:fz s x y):eH s' x y=(s'.q x y).length:=by
 unfold eH;have:=pE h;rw[aa (by omega),aa (by omega),aa (by omega),aa (by omega),aa (by omega),aa (by omega)]
theorem nL{s:Pl}(s':Pl)(g:eE){x y:Nat}(h:fz s x y):fU s' g x y=((s'.q x y).map g.tb).map P0:=by
 unfold fU;have:=pE h;rw[aa (by omega),aa (by omega),aa (by omega),aa (by omega),aa (by omega),aa (by omega)]
theorem td{s:Pl}{x y:Nat}(h:fz s x y)(e:x≠5):kN (wg x y)=(x,y)/\29<=wg x y/\wg x y<44/\wg x y≠42:=by
 rcases h with⟨rfl,rfl⟩|⟨rfl,rfl⟩|⟨rfl,h⟩|⟨rfl,h⟩
 .decide
 .decide
 .have:y=0\/y=1\/y=2\/y=3:=by omega
  rcases this with rfl|rfl|rfl|rfl<;>decide
 exact ch rfl e
theorem dQ.ln{p:dz}{s:Pl}{g:eE}{w:World}(h:dQ p s g w){x y:Nat}(i:fz s x y)(hn:(s.q x y).length<=1000000000): Ln w (tP p g x y) (wg x y) (EU x) (FZ x) (Hb p s g x y) (g.ro x y).1 (s.q x y).length (g.ro x y).2 ((s.q x y).map g.tb):=by
 have o:=h.row (xv i) (vu i);unfold sl at o;rw[(pD i).1,(pD i).2,mj s i,nL s g i]at o;unfold tP EU FZ Hb;by_cases e:x=5
 .rw[aj e,aj e,aj e,aj e];subst e;refine⟨h.tk (mO i rfl),by show 6<7;decide,?_,o,hn⟩;show sl s g 5 y=_;unfold sl;rw[mj s i]
 rw[aa e,aa e,aa e,aa e];obtain⟨a,b,c,d⟩:=td i e;refine⟨h.E,by omega,?_,o,hn⟩;unfold iJ;rw[aa (by omega),aa (by omega),aa (by omega),a];unfold sl;rw[mj s i]
end F
namespace F
def Pl.dv(s:Pl)(t:Nat)(v:oT):Pl:={ s with T:=λi=>if i=t then v else s.T i }
def Pl.eZ(s:Pl)(x y:Nat)(l:List Nat):Pl:={ s with q:=λa b=>if a=x/\b=y then l else s.q a b }
def eE.at(g:eE)(x y:Nat)(r:Option Addr×Nat):eE:={ g with ro:=λa b=>if a=x/\b=y then r else g.ro a b }
theorem df(s:Pl)(t:Nat)(v:oT):(s.dv t v).T t=v:=aj rfl
theorem dP(s:Pl){t u:Nat}(v:oT)(h:u≠t):(s.dv t v).T u=s.T u:=aa h
theorem fX(s:Pl)(x y:Nat)(l:List Nat):(s.eZ x y l).q x y=l:=aj ⟨rfl,rfl⟩
theorem fL(s:Pl){x y a b:Nat}(l:List Nat)(h:¬(a=x/\b=y)):(s.eZ x y l).q a b=s.q a b:=aa h
theorem qM(g:eE)(x y:Nat)(r:Option Addr×Nat):(g.at x y r).ro x y=r:=aj ⟨rfl,rfl⟩
theorem kR(g:eE){x y a b:Nat}(r:Option Addr×Nat)(h:¬(a=x/\b=y)):(g.at x y r).ro a b=g.ro a b:=aa h
theorem jN{s s':Pl}{x y:Nat}(G:s'.lv=s.lv)(o:s'.out=s.out)(i:s'.kp=s.kp)(e:s'.ev=s.ev)(J:s'.jo=s.jo)(H:(s'.T y).fr.length=(s.T y).fr.length)(u:s'.q x y=s.q x y):eH s' x y=eH s x y:=by
 unfold eH;rw[G,o,i,e,J,H,u]
theorem rj{s s':Pl}{g g':eE}{x y:Nat}(ht:g'.tb=g.tb)(e:g'.fb=g.fb)(H:s'.lv=s.lv)(u:s'.out=s.out)(o:s'.kp=s.kp)(i:s'.ev=s.ev)(W:s'.jo=s.jo)(J:(s'.T y).fr.length=(s.T y).fr.length)(G:s'.q x y=s.q x y):fU s' g' x y=fU s g x y:=by
 unfold fU;rw[H,u,o,i,W,J,G,ht,e]
theorem dQ.line{p:dz}{s:Pl}{g:eE}{w w':World}{x y t:Nat}{l:List Nat}{v:oT}{r:Option Addr×Nat}(h:dQ p s g w)(G:fz s x y)(ht:fe s t)(a8:v.fr=(s.T t).fr)(a6:v.lf=none\/v.lf=(s.T t).lf)(a7:¬(x=5/\y=t))(hH:Full w' (tP p g x y) (EU x) (FZ x) (FZ x) (ep (Hb p s g x y) (wg x y) (.slice r.1 l.length r.2)))(hR:w'.ownsRow 0 155 1 (.slice r.1 l.length r.2) l.length ((l.map g.tb).map P0))(hT:Full w' (g.tb t) 160 7 7 (gE p ((s.eZ x y l).dv t v) (g.at x y r) t))(hO:dy (λk=>k=tP p g x y\/k=g.tb t\/eO (g.ro x y).1=some k) w w')(hB:∀k,eO r.1=some k->eO (g.ro x y).1=some k\/w.heap.size<=k): Tr p s g w ((s.eZ x y l).dv t v) (g.at x y r) w':=by
 have i:∀u,(((s.eZ x y l).dv t v).T u).fr=(s.T u).fr:=λu=>by
  by_cases e:u=t
  .subst e;rw[df];exact a8
  rw[dP _ _ e];rfl
 have a3:∀a b,¬(a=x/\b=y)->((s.eZ x y l).dv t v).q a b=s.q a b:=λa b e=>fL s l e;have Z:∀a b,¬(a=x/\b=y)->sl ((s.eZ x y l).dv t v) (g.at x y r) a b=sl s g a b:=λa b e=>by
  unfold sl;rw[kR g r e,jN (s:=s) (s':=(s.eZ x y l).dv t v) rfl rfl rfl rfl rfl (by rw[i]) (a3 a b e)]
 have a1:=xv G;have a5:=vu G;have a0:sl ((s.eZ x y l).dv t v) (g.at x y r) x y=.slice r.1 l.length r.2:=by
  unfold sl;rw[qM,mj _ G];show Value.slice r.1 ((s.eZ x y l).q x y).length r.2=_;rw[fX]
 refine h.to (λa b c=>(a=x/\b=y/\c=0)\/(a=11/\b=t/\c=0)\/(x=5/\a=11/\b=y/\c=0)\/(x≠5/\a=0/\b=0/\c=0)\/(a=17/\b=t/\c=0/\v.lf=none)) (λ_=>(x,y,0)) (hO.mono (λk J _=>?_)) (λa b c hC=>?_) (λa b c hC=>?_) (λa b c k hC J=>?_)
 .rcases J with rfl|rfl|J
  .unfold tP;by_cases o:x=5
   .rw[aj o];refine⟨11,y,0,ab (ab (ag ⟨o,rfl,rfl,rfl⟩)),?_⟩;rw[kQ p g (mO G o)]
   rw[aa o];exact⟨0,0,0,ab (ab (ab (ag ⟨o,rfl,rfl,rfl⟩))),rfl⟩
  .refine⟨11,t,0,ab (ag ⟨rfl,rfl,rfl⟩),?_⟩;rw[kQ p g ht]
  refine⟨x,y,0,ag ⟨rfl,rfl,rfl⟩,?_⟩;rw[fR p g a1 a5];exact J
 .have a2:a=17->c=0->(((s.eZ x y l).dv t v).T b).lf=(s.T b).lf:=λW Y=>by
   by_cases e:b=t
   .subst e;rw[df];rcases a6 with h0|h0
    .exact ch (ab (ab (ab (ab ⟨W,rfl,Y,h0⟩)))) hC
    exact h0
   rw[dP _ _ e];rfl
  refine jT (nu rfl (by rw[i]) (λW Y=>by rw[a2 W Y])) (λhV=>lL hV ?_ (λ_=>⟨rfl,rfl,rfl⟩) ?_ ?_ ?_ (λ_=>rfl) (λ_=>⟨rfl,rfl⟩) ?_ ?_)
  .intro W;obtain⟨eb,Y⟩:=jZ hV (by omega);have o:=Classical.byContradiction λo=>hC (ab (ab (ab (ag ⟨o,W,eb,Y⟩))));exact jL (λa' b' _ e _ _=>Z a' b' (λhh=>e (hh.1.trans o))) rfl rfl
  .intro W;obtain⟨hb,Y⟩:=jq hV (by omega);have e1:b≠t:=λe=>hC (ab (ag ⟨W,e,Y⟩));refine⟨rfl,?_⟩;fB j
   unfold gE;rw[Z 12 b (λe=>by have:=pE G;omega),Z 5 b (λe=>hC (ab (ab (ag ⟨e.1.symm,W,e.2,Y⟩)))),dP _ _ e1];rfl
  .intro W;refine⟨rfl,?_⟩;unfold de;rw[i];rfl
  .intro W;refine⟨rfl,?_⟩;unfold de;rw[i]
  .intro W;subst W;obtain⟨hb,Y,_⟩:=ld hV;refine⟨rfl,?_⟩;unfold ye;rw[a2 rfl Y,i];rfl
  intro hx;have Y:=pW hV hx;have e:¬(a=x/\b=y):=λe=>hC (ag ⟨e.1,e.2,Y⟩);exact⟨kR g r e,jN (s:=s) (s':=(s.eZ x y l).dv t v) rfl rfl rfl rfl rfl (by rw[i]) (a3 a b e),rj (s:=s) (s':=(s.eZ x y l).dv t v) rfl rfl rfl rfl rfl rfl rfl (by rw[i]) (a3 a b e)⟩
 .rcases hC with⟨rfl,rfl,rfl⟩|⟨rfl,rfl,rfl⟩|⟨o,rfl,rfl,rfl⟩|⟨o,rfl,rfl,rfl⟩|⟨rfl,rfl,rfl,hn⟩
  .have H:=vu (s:=(s.eZ a b l).dv t v) G;rw[gH H,gk a1];show w'.ownsRow 0 (zA a) (zB a) (sl ((s.eZ a b l).dv t v) (g.at a b r) a b) (eH ((s.eZ a b l).dv t v) a b) (fU ((s.eZ a b l).dv t v) (g.at a b r) a b);rw[a0,(pD G).1,(pD G).2,mj _ G,nL _ _ G];show w'.ownsRow 0 155 1 _ ((s.eZ a b l).q a b).length ((((s.eZ a b l).q a b).map g.tb).map P0);rw[fX];exact hR
  .have H:gu ((s.eZ x y l).dv b v) 11 b 0=true:=gG (by omega) ht;rw[gH H];exact hT
  .have hb:=mO G o;have H:gu ((s.eZ x b l).dv t v) 11 b 0=true:=gG (by omega) hb;rw[gH H];have e1:b≠t:=λe=>a7 ⟨o,e⟩;have a4:Full w' (g.tb b) 160 7 7 (ep (gE p s g b) 6 (.slice r.1 l.length r.2)):=by
    have:=hH;unfold tP EU FZ Hb wg at this;simp only[aj o]at this;exact this
   refine a4.congr (λj hj=>?_);by_cases ej:j=6
   .subst ej;rw[gf,<-a0,o];rfl
   rw[eG _ _ _ _ ej];unfold gE;rw[Z 12 b (λe=>by omega),dP _ _ e1];by_cases j0:j=0
   .simp only[aj j0]
   by_cases j1:j=1
   .simp only[aa j0,aj j1]
   by_cases j2:j=2
   .simp only[aa j0,aa j1,aj j2];rfl
   by_cases j3:j=3
   .simp only[aa j0,aa j1,aa j2,aj j3];rfl
   by_cases j4:j=4
   .simp only[aa j0,aa j1,aa j2,aa j3,aj j4];rfl
   by_cases j5:j=5
   .simp only[aa j0,aa j1,aa j2,aa j3,aa j4,aj j5];rfl
   omega
  .have a4:Full w' p.eb 144 44 44 (ep (iJ p s g) (wg x y) (.slice r.1 l.length r.2)):=by
    have:=hH;unfold tP EU FZ Hb at this;simp only[aa o]at this;exact this
   refine Full.congr a4 (λj hj=>?_);rw[<-a0];exact xQ (td G o).1 (td G o).2 (λa b e _ _ _ _=>Z a b e) rfl rfl j hj
  rw[vq (λhV=>by
   have:=(ld hV).2.2;rw[df,hn]at this
   cases this)]
  exact trivial
 rcases hC with⟨rfl,rfl,rfl⟩|⟨rfl,rfl,rfl⟩|⟨o,rfl,rfl,rfl⟩|⟨o,rfl,rfl,rfl⟩|⟨rfl,rfl,rfl,hn⟩
 .have H:=vu (s:=(s.eZ a b l).dv t v) G;rw[fR p _ a1 H,qM]at J;rw[fR p g a1 a5];exact(hB k J).imp id (λh=>⟨h,rfl⟩)
 .rw[kQ p _ (show fe ((s.eZ x y l).dv b v) b from ht)]at J;rw[kQ p g ht];exact ag J
 .have hb:=mO G o;rw[kQ p _ (show fe ((s.eZ x b l).dv t v) b from hb)]at J;rw[kQ p g hb];exact ag J
 .exact ag J
 rw[vq (λhV=>by
  have:=(ld hV).2.2;rw[df,hn]at this
  cases this)]at J
 exact J.elim
theorem gn:∀(n:Nat) (l:List Nat),l.Nodup->(∀t,t∈l->1<=t/\t<=n)->l.length<=n
 | 0,[],_,_=>bj _
 | 0,a :: l,_,h=>by have:=h a (by simp);omega
 | n+1,l,hd,h=>by
  have e:=gn n (l.erase (n+1)) (hd.erase _) (λt ht=>by
   have e:=hd.mem_erase_iff.1 ht;have i:=h t e.2;have o:=e.1;omega)
  have i:l.length<=(l.erase (n+1)).length+1:=by
   rw[List.length_erase];split<;>omega
  omega
theorem qs{f:Nat->Nat}{a:Nat}:∀(l:List Nat),(∀b,b∈l->f b=f a->b=a)->(l.map f).erase (f a)=(l.erase a).map f
 | [],_=>rfl
 | b :: l,h=>by
  rw[List.map_cons,List.erase_cons,List.erase_cons];by_cases e:b=a
  .subst e;simp
  have y:(b == a)=false:=by simpa using e
  have o:(f b == f a)=false:=by
   rw[dK];exact λi=>e (h b (by simp) i)
  rw[y,o];simp[qs l (λc u=>h c (by simp[u]))]
structure LW(s:Pl):Prop where
 a:∀t,fe s t->∀x y,(s.T t).wh=some (x,y)->fz s x y/\t∈s.q x y/\¬(x=5/\y=t)
 b:∀x y,fz s x y->∀t,t∈s.q x y->fe s t/\(s.T t).wh=some (x,y)
 c:∀x y,fz s x y->(s.q x y).Nodup
 d:s.nt<=500000000
theorem LW.len{s:Pl}(h:LW s){x y:Nat}(e:fz s x y):(s.q x y).length<=500000000:=dH (gn s.nt _ (h.c x y e) (λt ht=>(h.b x y e t ht).1)) h.d
def oT.off(v:oT):oT:={ v with wh:=none,lf:=none }
def oT.to(v:oT)(x y:Nat):oT:={ v with run:=false,wh:=some (x,y) }
def Pl.dw(s:Pl)(t:Nat):Pl:=match (s.T t).wh with
 | none=>s
 | some (x,y)=>(s.eZ x y ((s.q x y).erase t)).dv t (s.T t).off
theorem FJ(g:eE)(x y:Nat):g.at x y (g.ro x y)=g:=by
 unfold eE.at;have:(λa b=>if a=x/\b=y then g.ro x y else g.ro a b)=g.ro:=by
  fB a b
  by_cases e:a=x/\b=y
  .rw[aj e,e.1,e.2]
  rw[aa e]
 rw[this]
theorem uk{p:dz}{s:Pl}{g:eE}{x y t:Nat}{l:List Nat}{v:oT}{r:Option Addr×Nat}(hl:fz s x y)(o:v.fr=(s.T t).fr)(u:¬(x=5/\y=t))(P:Nat->Value)(h0:P 0=gE p s g t 0)(H:P 1=gE p s g t 1)(h2:P 2=.bool v.run)(h3:P 3=x8 p g v.wh)(Y:P 4=Ba g t v.lf)(W:P 5=.int .i64 v.iL)(J:P 6=gE p s g t 6)(j:Nat)(hj:j<7):P j=gE p ((s.eZ x y l).dv t v) (g.at x y r) t j:=by
 have Z:=pE hl;have i:∀a,¬(a=x/\t=y)->sl ((s.eZ x y l).dv t v) (g.at x y r) a t=sl s g a t:=λa e=>by
  unfold sl;rw[kR g r e,jN (s:=s) (s':=(s.eZ x y l).dv t v) rfl rfl rfl rfl rfl (by rw[df,o]) (fL s l e)]
 have G:j=0\/j=1\/j=2\/j=3\/j=4\/j=5\/j=6:=by omega
 rcases G with rfl|rfl|rfl|rfl|rfl|rfl|rfl
 .exact h0
 .rw[H];exact(i 12 (λe=>by omega)).symm
 .rw[h2];show _=Value.bool _;rw[df]
 .rw[h3];show _=x8 p (g.at x y r) _;rw[df];rfl
 .rw[Y];show _=Ba (g.at x y r) t _;rw[df];rfl
 .rw[W];show _=Value.int .i64 _;rw[df]
 rw[J];exact(i 5 (λe=>u ⟨e.1.symm,e.2.symm⟩)).symm
theorem ss{p:dz}{s:Pl}{g:eE}{w:World}{t:Nat}(h:dQ p s g w)(hW:LW s)(ht:fe s t): Calls prog 133 #[P0 (g.tb t)] w λe w'=>e=.returned (.tuple #[])/\Tr p s g w (s.dw t) g w':=by
 have hT:=h.tk ht;unfold Pl.dw
 cases hwh:(s.T t).wh with
 | none=>
  refine(uU (g.tb t) w ?_).mono ?_
  .rw[hT.cell 3 (by omega)];show some (x8 p g (s.T t).wh)=_;rw[hwh];rfl
  rintro e w' ⟨rfl,rfl⟩;exact⟨rfl,Tr.refl h⟩
 | some xy=>
  obtain⟨x,y⟩:=xy;obtain⟨G,hm,H⟩:=hW.a t ht x y hwh;have a8:=hW.len G;have i:=h.ln G (by omega);have Z:(s.q x y).length≠0:=by
   intro e;rw[cf]at e;rw[e]at hm;cases hm
  obtain⟨gb,cap,a3⟩:=dM i.row Z;injection a3 with W _ Y;have a9:=i;rw[W,Y]at i
  have nb:tP p g x y≠g.tb t:=by
   unfold tP;by_cases h5:x=5
   .rw[aj h5];exact λe=>H ⟨h5,h.ny (mO G h5) ht e⟩
   rw[aa h5];exact h.E.ne hT (by decide)
  have a4:gE p s g t 3=Pt (tP p g x y) (wg x y):=by
   show x8 p g (s.T t).wh=_;rw[hwh];rfl
  refine(Cd (tP p g x y) (wg x y) gb cap (s.q x y).length (g.tb t) (FZ x) (EU x) (Hb p s g x y) (gE p s g t) ((s.q x y).map g.tb) w i hT a4 (List.mem_map_of_mem hm) (λz hz=>?_) nb (eL i.row i.hE (by unfold EU;split<;>decide) gb rfl) (eL i.row hT (by decide) gb rfl)).mono ?_
  .obtain⟨u,hu,rfl⟩:=ek.1 hz;exact(h.tk (hW.b x y G u hu).1).xV
  rintro e w' ⟨rfl,a1,a5,a7⟩;have a2:=List.length_erase_of_mem hm;have o:g.ro x y=(some ⟨gb,0,none⟩,cap):=fV W Y;have a0:=h.line (l:=(s.q x y).erase t) (v:=(s.T t).off) (r:=g.ro x y) G ht rfl (ag rfl) H (w':=w') ?_ ?_ ?_ ?_ (λk hk=>ag hk)
  .rw[FJ]at a0;exact⟨rfl,a0⟩
  .rw[a2,o];exact a1.hE
  .rw[a2,o];have:=a1.row;rw[qs _ (λb hb e=>h.ny (hW.b x y G b hb).1 ht e)]at this;exact this
  .refine a5.congr (λj hj=>uk (v:=(s.T t).off) G rfl H _ ?_ ?_ ?_ ?_ ?_ ?_ ?_ j hj)<;>rfl
  refine a7.mono (λk hk _=>?_);rcases hk with J|J|J
  .exact ag J
  .exact ab (ag J)
  refine ab (ab ?_);rw[o,J];rfl
def Pl.dV(s:Pl)(x y t:Nat):Pl:=((s.dw t).eZ x y ((s.dw t).q x y++[t])).dv t (((s.dw t).T t).to x y)
theorem ku(s:Pl)(t u:Nat):((s.dw t).T u).fr=(s.T u).fr:=by
 unfold Pl.dw;split
 .rfl
 by_cases e:u=t
 .subst e;rw[df];rfl
 rw[dP _ _ e];rfl
theorem fO(s:Pl)(t:Nat):(s.dw t).nt=s.nt:=by unfold Pl.dw;split<;>rfl
theorem vn(s:Pl){t x y:Nat}(h:(s.T t).wh≠some (x,y)):(s.dw t).q x y=s.q x y:=by
 unfold Pl.dw;split
 .rfl
 rename_i a b e;exact fL s _ (λi=>h (by rw[e,i.1,i.2]))
theorem eg{s s':Pl}(h:s'.nt=s.nt){t:Nat}:fe s' t↔fe s t:=by unfold fe;rw[h]
theorem fQ{s s':Pl}(h:s'.nt=s.nt){x y:Nat}:fz s' x y↔fz s x y:=by unfold fz;rw[eg h]
theorem xA{p:dz}{s:Pl}{g:eE}{w:World}{x y t:Nat}(h:dQ p s g w)(hW:LW s)(hl:fz s x y)(ht:fe s t)(G:¬(x=5/\y=t))(a1:(s.T t).wh≠some (x,y)): Calls prog 110 #[Pt (tP p g x y) (wg x y),P0 (g.tb t)] w λe w'=>e=.returned (.tuple #[])/\∃r,Tr p s g w (s.dV x y t) (g.at x y r) w':=by
 have a5:=hW.len hl;have J:=h.ln hl (by omega);have hT:=h.tk ht
 have nb:tP p g x y≠g.tb t:=by
  unfold tP;by_cases h5:x=5
  .rw[aj h5];exact λe=>G ⟨h5,h.ny (mO hl h5) ht e⟩
  rw[aa h5];exact h.E.ne hT (by decide)
 have hc:w.cell? ⟨tP p g x y,wg x y,none⟩=some (.slice (g.ro x y).1 (s.q x y).length (g.ro x y).2):=by
  rw[J.hE.cell _ J.ho,J.e]
 have hn1:=fO s t;have u:=(fQ hn1).2 hl;have a0:=(eg hn1).2 ht;have i:=vn s a1;refine(Jr (tP p g x y) (wg x y) (g.ro x y).2 (s.q x y).length (g.tb t) (FZ x) (EU x) (g.ro x y).1 (Hb p (s.dw t) g x y) (gE p (s.dw t) g t) ((s.q x y).map g.tb) (λw1=>Tr p s g w (s.dw t) g w1) w nb (λk o=>⟨eL J.row J.hE (by unfold EU;split<;>decide) k o,eL J.row hT (by decide) k o⟩) (by omega) hc ?_).mono ?_
 .refine(ss h hW ht).mono ?_;rintro e w1 ⟨rfl,H⟩;have W:=H.r.ln u (by rw[i];omega);rw[i]at W;exact⟨rfl,W,H.r.tk a0,H⟩
 rintro e w' ⟨rfl,w1,H,gb,c',Z,a2,a4,Y⟩;refine⟨rfl,(some ⟨gb,0,none⟩,c'),H.trans (H.r.line u a0 rfl (ab rfl) G ?_ ?_ ?_ ?_ ?_)⟩
 .rw[i,bo];exact Z.hE
 .rw[i,bo];have:=Z.row;rw[eP];exact this
 .refine a2.congr (λj hj=>uk (v:=((s.dw t).T t).to x y) u rfl G _ ?_ ?_ ?_ ?_ ?_ ?_ ?_ j hj)<;>rfl
 .refine a4.mono (λk o _=>?_);rw[dr]at o;exact o
 intro k o;have e:gb=k:=by injection o
 subst e;rw[dr]at Y;exact Y
