import Derived.Test.YtnjiinbhbjpfkaaGreatDoorStpAC
set_option maxRecDepth 100000
set_option maxHeartbeats 0
set_option linter.all false
namespace Go.Proofs.YtnjiinbhbjpfkaaGreatDoor
open Go.RowKit Go.Proofs.Tryz
namespace F
theorem Tryz.underlying56:prog.underlying 56=some (.slice 169):=by kernel_rfl
theorem Tryz.Ew:(prog.info? 169).map (·.size)=some 2:=by kernel_rfl
theorem jJ{w:World}{b:Nat}{x y:Value}{T:TypeId}(h:w.heap[b]? = some (.cells #[x,y] T (0,0))):w.cell? ⟨b,0,none⟩=some x/\w.cell? ⟨b,1,none⟩=some y/\b<w.heap.size:=⟨by simp[World.cell?,h],by simp[World.cell?,h],bz h⟩
theorem gp{w:World}{b:Nat}{x y z u:Value}{T:TypeId}(h:w.heap[b]? = some (.cells #[x,y,z,u] T (0,0))):w.cell? ⟨b,0,none⟩=some x/\w.cell? ⟨b,1,none⟩=some y/\w.cell? ⟨b,2,none⟩=some z/\w.cell? ⟨b,3,none⟩=some u/\b<w.heap.size:=⟨by simp[World.cell?,h],by simp[World.cell?,h],by simp[World.cell?,h],by simp[World.cell?,h],bz h⟩
def FC(sb:Nat)(kind hh ticks:Int)(ia:Option Addr)(gm ic:Nat):Ob:=.one sb (.cells #[.int .i64 kind,.int .i64 hh,.int .i64 ticks,.slice ia gm ic] 76 (0,0))
theorem BV(n:Nat)(a b c:Value):ep (ep (wm n a b) 0 (.int .i64 ((n:Int)+1))) 1 c=wm (n+1) c b:=by
 fB j
 unfold ep wm;by_cases i:j=1
 .subst i;rfl
 rw[aa i];by_cases e:j=0
 .rw[aj e,aj e];rfl
 rw[aa e,aa e,aa e,aa i,aa i]
def Gh(O:Nat->Ob)(x:oV)(I ob mo bk n:Nat)(E:List (Sl×Int))(itv:Value)(w0 w':World):Prop:=∃(x':oV) (ra:Option Addr×Nat) (Q:List (Sl×Int)),x'.mb=x.mb/\x'.pb=x.pb/\x'.h.mb=x.h.mb/\x'.Good (I+1)/\Q.length=4/\(∀y,y∈Q->y.1.2.1<=1000) /\
 iA w0 (fm (fm (fm (fm (fm O 0 (.zS x'.p x'.s x'.g x'.mb)) 1 (.doc x'.d x'.m x'.h)) 7 (.full bk 81 3 (wm (n+1) (.slice ra.1 (E++Q).length ra.2) itv))) 8 (.row 119 2 ra.1 (E++Q).length ra.2 (gQ (E++Q)))) 10 (.lists 48 3 mG (E++Q))) w'
theorem Fo(l:List se):(kE l).length=l.length*3:=by
 induction l with
 |nil=>rfl
 |cons a l e=>
  have:kE (a :: l)=[.int .i64 (a.1:Int),.int .i64 (a.2.1:Int),.int .i64 a.2.2]++kE l:=by unfold kE;simp
  rw[this,bo,e];simp;omega
theorem Hw{l:List se}:∀{k:Nat} {e:se},l[k]? = some e->(kE l)[k*3]? = some (.int .i64 (e.1:Int))/\(kE l)[k*3+1]? = some (.int .i64 (e.2.1:Int))/\(kE l)[k*3+2]? = some (.int .i64 e.2.2):=by
 induction l with
 |nil=>intro k e h;simp at h
 |cons a l o=>
  intro k e h;have i:kE (a :: l)=.int .i64 (a.1:Int) :: .int .i64 (a.2.1:Int) :: .int .i64 a.2.2 :: kE l:=by unfold kE;simp
  rw[i]
  cases k with
  |zero=>
   have:a=e:=by simpa using h
   subst this;exact⟨rfl,rfl,rfl⟩
  |succ k=>
   have:=o (k:=k) (e:=e) (by simpa using h);rw[show(k+1)*3=k*3+3 by omega];exact this
theorem Ah{w:World}{a:Option Addr}{n c:Nat}{l:List se}{i:Nat}{e:se}(h:w.ownsRow 0 48 3 (.slice a n c) n (kE l))(he:l[i]? = some e):∃b,a=some ⟨b,0,none⟩/\b<w.heap.size/\w.cell? ⟨b,i*3,none⟩=some (.int .i64 (e.1:Int))/\w.cell? ⟨b,i*3+1,none⟩=some (.int .i64 (e.2.1:Int))/\w.cell? ⟨b,i*3+2,none⟩=some (.int .i64 e.2.2):=by
 have Y:=(bu.1 he).1;have hn:n≠0:=λo=>by
  have:=h.1;rw[o,Fo l]at this;omega
 obtain⟨b,Z,u⟩:=dM h hn;injection u with G _ y;subst G y;obtain⟨o,W,J⟩:=Hw he;exact⟨b,rfl,(dA h b rfl).2.1,hZ h o,hZ h W,hZ h J⟩
theorem EJ{d:D.Dp}{m:D.Dm}{g:D.Dg}{w:World}{s:Pl}{v:Value}(hR:D.dQ d m g w)(he:m.ev=s.ev)(o:v=D.iR m g 4 0\/(v=.slice none 0 0/\m.ev=[])):∃a c,v=.slice a s.ev.length c/\w.ownsRow 0 48 3 (.slice a s.ev.length c) s.ev.length (kE s.ev):=by
 rcases o with rfl|⟨rfl,i⟩
 .have h:=hR.E;rw[he]at h;have e:D.iR m g 4 0=.slice (g.ro 4 0).1 s.ev.length (g.ro 4 0).2:=by rw[<-he];rfl
  rw[e]at h ⊢;exact⟨_,_,rfl,h⟩
 rw[<-he,i];exact⟨none,0,rfl,dJ _ _ _ _⟩
theorem IK{O:Nat->Ob}{x:oV}{I ob mo bk n:Nat}{ra:Option Addr×Nat}{E:List (Sl×Int)}{itv:Value}{w0 w:World}{kind hh ticks:Int}{ia:Option Addr}{gm ic:Nat}{il:List (Int×Nat)}(hf:iA w0 O w)(e0:O 0=.zS x.p x.s x.g x.mb)(e1:O 1=.doc x.d x.m x.h)(e2:O 2=.one x.pb (.cells #[P0 x.mb,P0 x.h.mb] 74 (0,0)))(e6:O 6=.xV ob 169 (mo*2))(e7:O 7=.full bk 81 3 (wm n (.slice ra.1 E.length ra.2) itv))(e8:O 8=.row 119 2 ra.1 E.length ra.2 (gQ E))(e10:O 10=.lists 48 3 mG E)(e12:O 12=.nil)(e13:O 13=.nil)(hG:x.Good I)(hI:It w0 ia gm il)(hmo:gm+8<=mo)(hmo2:mo<=1000000008)(hn:n<=1000000000)(hE:E.length<=100000000)(hIb:I<=2000000)(ht0:-9223372036854775808<=ticks)(ht1:ticks<=9223372036854775807): Calls prog 48 #[P0 bk,P0 x.pb,.agg #[.int .i64 kind,.int .i64 hh,.int .i64 ticks,.slice ia gm ic],.slice (some ⟨ob,0,none⟩) mo mo] w λe w'=>e=.returned (.bool true)/\Gh O x I ob mo bk n E itv w0 w':=by
 have HEQ:=az (ay e0 (ay e1 (ay e2 (ay e6 (ay e7 (ay e8 (ay e10 (ay e12 e13))))))));have HG:=az hG;have HI:=az hI;have HF:=az hf;obtain⟨hil,hin9,_⟩:=hI;have HIL:=az hil;have HTB:=az (ay ht0 ht1);clear e0 e1 e2 e6 e7 e8 e10 e12 e13 hG hf hil ht0 ht1;go_in;obtain⟨sb,hsb⟩:∃sb,sb=w.heap.size:=⟨_,rfl⟩;have HF1:Hid (iA w0 (fm O 13 (FC sb kind hh ticks ia gm ic)) (w.alloc (.cells #[.int .i64 kind,.int .i64 hh,.int .i64 ticks,.slice ia gm ic] 76))):=by
  refine HF.out.new 13 (ah _ _ none) ?_ (λk hk=>?_)
  .rw[hsb];exact bf w _
  have:k=sb:=hk;omega
 go_upto_region 2 with fail
 generalize w.alloc (.cells #[.int .i64 kind,.int .i64 hh,.int .i64 ticks,.slice ia gm ic] 76)=w1 at *;rw[<-hsb];have hbx:w1.heap[sb]? = some (.cells #[.int .i64 kind,.int .i64 hh,.int .i64 ticks,.slice ia gm ic] 76 (0,0)):=HF1.out.at 13 (X:=FC sb kind hh ticks ia gm ic) rfl;obtain⟨_,_,b2,b3,lsb⟩:=gp hbx;obtain⟨cur,hcur,hcs⟩:jB w1 ob 169 (mo*2):=HF1.out.at 6 HEQ.out.2.2.2.1;have HCUR:=az (ay hcur hcs);clear hcur hcs hbx HF hsb;obtain⟨cs,hcse⟩:∃cs,cs=D.rowP (il.length*2) (oC il):=⟨_,rfl⟩;have HCS:=az hcse;clear hcse;go_wp2_with (refine sf rfl (.tmp 19) (.tmp 21) 56 56 rfl 169 2 Tryz.underlying56 Tryz.Ew ob mo mo gm ic ia rfl rfl cur 169 HCUR.out.1 cs ?c0 ?c1 ?c2 ?c3 ?c4 ?c5 ?_)
 try case c0=>omega
 try case c1=>rw[HCS.out,kH,HIL.out]
 try case c2=>intro h;rw[HCS.out,HI.out.2.2.2.1 h];rfl
 try case c3=>
  intro a ha j v hj;rw[HCS.out]at hj;have hjl:j<il.length*2:=by
   have:=(bu.1 hj).1;rw[kH]at this;exact this
  rw[lh _ hjl]at hj;injection hj with hj;subst hj;obtain⟨y,hy⟩:∃y,il[j / 2]? = some y:=⟨_,bn (by omega)⟩;have hg:il.getD (j / 2) (77,0)=y:=by rw[ar,hy];rfl
  obtain⟨_,c0,c1⟩:=HI.out.cell HF1.out.b ha hy;rcases Nat.mod_two_eq_zero_or_one j with e|e
  .have ej:j=j / 2*2:=by omega
   have:=EM il (j / 2);rw[hg]at this;rw[ej,this];exact c0
  have ej:j=j / 2*2+1:=by omega
  have:=EL il (j / 2);rw[hg]at this;rw[ej,this];exact c1
 try case c4=>rw[HCS.out,kH,HCUR.out.2,<-HIL.out];omega
 try case c5=>
  intro v hv;rw[HCS.out]at hv;obtain⟨j,_,rfl⟩:=ek.1 hv;unfold oC;split<;>rfl
 have HFU:Hid (Full (w1.setRow ob (cs++cur.toList.drop cs.length).toArray) ob 169 (mo*2) (gm*2) (oC il)):=by
  have h:=AX (il:=il) HCUR.out.1 HCUR.out.2 (by rw[<-HIL.out];omega);rw[<-HIL.out]at h;show Full _ _ _ _ _ _;rw[HCS.out,<-HIL.out];exact h
 have HOU:Hid (dy (λk=>k=ob) w1 (w1.setRow ob (cs++cur.toList.drop cs.length).toArray)):=xj ob _;generalize w1.setRow ob (cs++cur.toList.drop cs.length).toArray=w2 at *;clear HCUR HCS b2 b3 lsb;go_wp2_with fail
 go_loopw [10] (λiv wx=>∃j:Nat,gm<=j/\j<=mo/\iv=.int .i64 j/\Hid (dy (λk=>k=ob) w1 wx)/\Hid (Full wx ob 169 (mo*2) (j*2) (oC il))) (λiv _=>mo-(intOf iv).toNat)
 case atStart=>exact⟨gm,by omega,by omega,rfl,HOU,HFU⟩
 case round=>
  clear HOU HFU;obtain⟨j,hj1,hj2,rfl,rO,rF⟩:=hrel;by_cases hjm:j<mo
  .have hjm2:(j:Int)<(mo:Int):=by omega
   have hB:jB wr ob 169 (mo*2):=by
    obtain⟨c,k1,k2,_⟩:=rF.out;exact⟨c,k1,k2⟩
   obtain⟨⟨v0,q0⟩,p0⟩:=hB.cell (j*2) (by omega);obtain⟨⟨v1,q1⟩,p1⟩:=hB.cell (j*2+1) (by omega);have hgd:il.getD j (77,0)=(77,0):=by rw[ar,cw (by rw[<-HIL.out];exact hj1)];rfl
   have HF':Hid (Full ((wr.setCell ⟨ob,j*2,none⟩ (.int .i64 77)).setCell ⟨ob,j*2+1,none⟩ (.int .u8 0)) ob 169 (mo*2) ((j+1)*2) (oC il)):=by
    have h:=(rF.out.set (by omega)).set (by omega);rw[EM,EL,hgd]at h;rw[show(j+1)*2=j*2+1+1 by omega];exact h
   have HO':Hid (dy (λk=>k=ob) w1 ((wr.setCell ⟨ob,j*2,none⟩ (.int .i64 77)).setCell ⟨ob,j*2+1,none⟩ (.int .u8 0))):=bm (S:=λk=>k=ob) (a:=⟨ob,j*2+1,none⟩) (bm (S:=λk=>k=ob) (a:=⟨ob,j*2,none⟩) rO.out (ag rfl) _) (ag rfl) _;clear hB hgd rO rF;go_wp2_with fail
   go_roundw
   case rel=>exact⟨j+1,by omega,by omega,by go_num,HO',HF'⟩
   case measure=>simp[intOf];omega
  have hjm2:¬((j:Int)<(mo:Int)):=by omega
  have hje:mo=j:=by omega
  subst hje;have HF2:Hid (iA w0 (fm (fm O 13 (FC sb kind hh ticks ia gm ic)) 6 (.full ob 169 (mo*2) (oC il))) wr):=by
   have hb:(fm O 13 (FC sb kind hh ticks ia gm ic) 6).bs=λk=>k=ob:=by
    rw[eT _ _ (by decide),HEQ.out.2.2.2.1];rfl
   refine HF1.out.AR 6 (by rw[hb];exact rO.out) rF.out (λk hk=>ag ?_);rw[hb];exact hk
  have hFd:=HF2.out.kept (w':=wr.drew) (bq (ax _ _));have hM:tN x.p x.s x.g x.mb wr.drew:=hFd.at 0 HEQ.out.1;have hFo:Full wr.drew ob 169 (mo*2) (mo*2) (oC il):=hFd.at 6 (iu _ _ _);have HTN:=az (hM.BW mo ticks HG.out.pg (by have:=HG.out.n1;have:=HG.out.pg.q;omega) (Ct (S:=λk=>ey x.p x.s x.g k\/k=x.mb) hFo HIL.out (by omega) hin9 HI.out.2.2.1 (hFd.not (i:=6) (j:=0) (k:=ob) (iu _ _ _) HEQ.out.1 (by decide) rfl)));have HOK:=az (ay hM.ok hM.ev);have hpb:wr.heap[x.pb]? = some (.cells #[P0 x.mb,P0 x.h.mb] 74 (0,0)):=HF2.out.at 2 HEQ.out.2.2.1;obtain⟨p0,p1,lpb⟩:=jJ hpb;have hbx:wr.heap[sb]? = some (.cells #[.int .i64 kind,.int .i64 hh,.int .i64 ticks,.slice ia gm ic] 76 (0,0)):=HF2.out.at 13 (X:=FC sb kind hh ticks ia gm ic) rfl;obtain⟨_,_,b2,b3,lsb⟩:=gp hbx;clear hpb hbx hM hFo hFd HF1 rO rF;have hin2:(gm:Int)<=(mo:Int):=by omega
  go_wp2_with fail
  go_cut [11] from 34 to 43 (λv wx=>∃(s6:Pl) (g6:eE) (a6:Option Addr) (c6:Nat),v=.slice a6 s6.ev.length c6/\Hid (jh x.p x.s ticks il s6)/\Hid (iA w0 (fm (fm (fm (fm O 13 (FC sb kind hh ticks ia gm ic)) 6 (.full ob 169 (mo*2) (oC il))) 0 (.zS x.p s6.lD g6 x.mb)) 12 (.row 48 3 a6 s6.ev.length c6 (kE s6.ev))) wx))
  case first=>
   go_region_with (go_at_call 24;refine HTN.out.mono ?_;rintro e w6 ⟨s6,g6,a6,c6,rfl,ht6,ho6,hg6,hd6⟩;have HT6:=az ht6;have HF6:=az ((HF2.out.kept (w':=wr.drew) (bq (ax _ _))).BX HEQ.out.1 hg6 ho6 hd6);clear ht6 ho6 hg6 hd6)
   all_goals
    go_wp2_with fail
    go_meet
    case rel=>exact⟨s6,g6,a6,c6,rfl,HT6,HF6⟩
  case rest=>
   obtain⟨s6,g6,a6,c6,rfl,HT6,HF6⟩:=hcut;clear HTN HF2 p0 p1 b2 b3 lpb lsb;have hFd:=HF6.out.kept (w':=wc.drew) (bq (ax _ _));have hR:D.dQ x.d x.m x.h wc.drew:=hFd.at 1 HEQ.out.2.1;obtain⟨ρ,hSim⟩:=HG.out.Iy;have HTD:=az (D.IL (ticks:=ticks) (c0:=ic) HG.out.pd HG.out.rg HG.out.pg.pi (by have:=HG.out.pg.q;omega) HG.out.dn hR hSim HOK.out.1 HG.out.ng HOK.out.2 HG.out.n0 (by have:=HG.out.n1;have:=HG.out.pg.q;omega) HG.out.pg.q HTB.out.1 HTB.out.2 (HI.out.Mh hFd.b (S:=D.ey x.d x.m x.h) (λk hk=>hFd.lo 1 k (by show(O 1).bs k;rw[HEQ.out.2.1];exact hk))) HT6.out);have hpb:wc.heap[x.pb]? = some (.cells #[P0 x.mb,P0 x.h.mb] 74 (0,0)):=HF6.out.at 2 HEQ.out.2.2.1;obtain⟨p0,p1,lpb⟩:=jJ hpb;have hbx:wc.heap[sb]? = some (.cells #[.int .i64 kind,.int .i64 hh,.int .i64 ticks,.slice ia gm ic] 76 (0,0)):=HF6.out.at 13 (X:=FC sb kind hh ticks ia gm ic) rfl;obtain⟨_,_,b2,b3,lsb⟩:=gp hbx;clear hpb hbx hFd hR hSim;obtain⟨wA,hwA⟩:∃z:World,z=wc:=⟨_,rfl⟩;subst hwA;go_wp2_with fail
   go_cut [12] from 44 to 52 (λv wx=>∃(m7:D.Dm) (h7:D.Dg) (ρ7:Nat->Nat) (a7:Option Addr) (c7:Nat),v=.slice a7 s6.ev.length c7/\Hid (h7.mb=x.h.mb/\D.eK x.p (1+50*I+x.p.qn) s6 m7 ρ7)/\Hid (wx.ownsRow 0 48 3 (.slice a7 s6.ev.length c7) s6.ev.length (kE s6.ev))/\Hid (iA w0 (fm (fm (fm (fm (fm O 13 (FC sb kind hh ticks ia gm ic)) 6 (.full ob 169 (mo*2) (oC il))) 0 (.zS x.p s6.lD g6 x.mb)) 12 (.row 48 3 a6 s6.ev.length c6 (kE s6.ev))) 1 (.doc x.d m7 h7)) wx))
   case first=>
    go_region_with (go_at_call 75;refine HTD.out.mono ?_;rintro e w7 ⟨v7,rfl,m7,h7,ρ7,hT7,hS7,hv7⟩;have HS7:=az (ay hT7.b hS7);have HF7:=az ((HF6.out.kept (w':=wA.drew) (bq (ax _ _))).IM HEQ.out.2.1 hT7);obtain⟨a7,c7,rfl,hw7⟩:=EJ hT7.r hS7.ev hv7;have HW7:=az hw7;clear hT7 hS7 hv7 hw7)
    all_goals
     go_wp2_with fail
     go_meet
     case rel=>exact⟨m7,h7,ρ7,a7,c7,rfl,HS7,HW7,HF7⟩
   case rest=>
    obtain⟨m7,h7,ρ7,a7,c7,rfl,HS7,HW7,HF7⟩:=hcut;clear HTD HF6 p0 p1 b2 b3 lpb lsb;obtain⟨wB,hwB⟩:∃z:World,z=wc:=⟨_,rfl⟩;subst hwB;have HRL:Hid (wB.ownsRow 0 48 3 (.slice a6 s6.ev.length c6) s6.ev.length (kE s6.ev)):=HF7.out.at 12 (X:=.row 48 3 a6 s6.ev.length c6 (kE s6.ev)) rfl;have HEL:Hid (s6.ev.length<=50):=by
     have h1:=(nW HG.out.pg.pi HG.out.pg.pw.n1 HOK.out.1 HOK.out.2 (by have:=HG.out.n1;have:=HG.out.pg.q;omega) (qj HI.out.2.2.1) HT6.out).el;have h2:=HG.out.pg.q;show _<=_;omega
    have hne50:=HEL.out;obtain⟨ne,hne⟩:∃ne,ne=s6.ev.length:=⟨_,rfl⟩;have HNE:=az hne;rw[<-hne]at hne50;rw[<-hne];clear hne;go_wp2_with fail
    go_loopw [13,14] (λov iv wx=>∃i:Nat,i<=ne/\ov=.bool true/\iv=.int .i64 i/\Hid (wB.grownBy wx none)) (λ_ iv _=>ne-(intOf iv).toNat)
    case atStart=>exact⟨0,by omega,by simp,rfl,ax _ _⟩
    case round=>
     obtain⟨i,hi,rfl,rfl,rG⟩:=hrel;by_cases hin:i<ne
     .have hin2:(i:Int)<(ne:Int):=by omega
      obtain⟨ev,hev⟩:∃ev,s6.ev[i]? = some ev:=⟨_,bn (by rw[<-HNE.out];exact hin)⟩;obtain⟨ba,h1,h2,h3,h4,h5⟩:=Ah HRL.out hev;obtain⟨bb,k1,k2,k3,k4,k5⟩:=Ah HW7.out hev;subst h1 k1;have lr:=rG.out.size;have d0:=(bh rG.out (a:=⟨ba,i*3,none⟩) h2).1.trans h3;have d1:=(bh rG.out (a:=⟨ba,i*3+1,none⟩) h2).1.trans h4;have d2:=(bh rG.out (a:=⟨ba,i*3+2,none⟩) h2).1.trans h5;have f0:=(bh rG.out (a:=⟨bb,i*3,none⟩) k2).1.trans k3;have f1:=(bh rG.out (a:=⟨bb,i*3+1,none⟩) k2).1.trans k4;have f2:=(bh rG.out (a:=⟨bb,i*3+2,none⟩) k2).1.trans k5
      clear h3 h4 h5 k3 k4 k5 hev;go_wp2_with fail
      go_quiet (fail)
      go_wp2_with fail
      go_roundw
      case rel=>exact⟨i+1,by omega,by simp,by go_num,⟨rG.out.os,rG.out.tape,rG.out.output,rG.out.size,rG.out.block⟩⟩
      case measure=>simp[intOf];omega
     have hin2:¬((i:Int)<(ne:Int)):=by omega
     have HF8:=az (HF7.out.kept rG.out);have hie:i=ne:=by omega
     clear HF7 HRL HW7;obtain⟨wC,hwC⟩:∃z:World,z=wr:=⟨_,rfl⟩;subst hwC;have HG0:Hid (wC.grownBy wC none):=ax _ _;go_wp2_with fail
     go_loopw [13,15] (λov iv wx=>∃i:Nat,i<=mo/\ov=.bool true/\iv=.int .i64 i/\Hid (wC.grownBy wx none)) (λ_ iv _=>mo-(intOf iv).toNat)
     case atStart=>exact⟨0,by omega,rfl,rfl,HG0⟩
     case round=>
      clear HG0;obtain⟨q,hq,rfl,rfl,rG2⟩:=hrel;have HF9:=az (HF8.out.kept rG2.out);by_cases hqm:q<mo
      .have hqm2:(q:Int)<(mo:Int):=by omega
       have hFo:Full wr ob 169 (mo*2) (mo*2) (oC il):=HF9.out.at 6 (X:=.full ob 169 (mo*2) (oC il)) rfl;have o0:=hFo.cell (q*2) (by omega);have o1:=hFo.cell (q*2+1) (by omega);rw[EM]at o0;rw[EL]at o1;have lob:=hFo.lt;clear hFo;by_cases hqi:q<gm
       .have hqi2:(q:Int)<(gm:Int):=by omega
        obtain⟨y,hy⟩:∃y,il[q]? = some y:=⟨_,bn (by rw[<-HIL.out];exact hqi)⟩;have hg:il.getD q (77,0)=y:=by rw[ar,hy];rfl
        rw[hg]at o0 o1;obtain⟨a,rfl⟩:∃a,ia=some a:=by
         cases ia with
         |none=>rw[HI.out.2.2.2.1 rfl]at hy;simp at hy
         |some a=>exact⟨a,rfl⟩
        obtain⟨z1,z2,z3⟩:=HI.out.cell HF9.out.b rfl hy;have z4:wr.cell? ⟨(a.add (q*2)).block,(a.add (q*2)).off+1,none⟩=some (.int .u8 (y.2:Int)):=by
         rw[<-D.kS a (q*2) 1]at z3;exact z3
        have hbx:wr.heap[sb]? = some (.cells #[.int .i64 kind,.int .i64 hh,.int .i64 ticks,.slice (some a) gm ic] 76 (0,0)):=HF9.out.at 13 (X:=FC sb kind hh ticks (some a) gm ic) rfl;obtain⟨_,_,_,b3,lsb⟩:=gp hbx;clear hbx z3 hy hg;go_wp2_with fail
        go_quiet (fail)
        go_wp2_with fail
        go_roundw
        case rel=>exact⟨q+1,by omega,by simp,by go_num,⟨rG2.out.os,rG2.out.tape,rG2.out.output,rG2.out.size,rG2.out.block⟩⟩
        case measure=>simp[intOf];omega
       have hqi2:¬((q:Int)<(gm:Int)):=by omega
       have hg:il.getD q (77,0)=(77,0):=by rw[ar,cw (by rw[<-HIL.out];omega)];rfl
       rw[hg]at o0 o1;clear hg;have o1':wr.cell? ⟨ob,q*2+1,none⟩=some (.int .u8 0):=o1;clear o1;go_wp2_with fail
       go_roundw
       case rel=>exact⟨q+1,by omega,by simp,by go_num,rG2⟩
       case measure=>simp[intOf];omega
      have hqm2:¬((q:Int)<(mo:Int)):=by omega
      have HTK:=az (IW (n:=n) (Ev:=wm n (.slice ra.1 E.length ra.2) itv) (HF9.out.at 7 (X:=.full bk 81 3 (wm n (.slice ra.1 E.length ra.2) itv)) HEQ.out.2.2.2.2.1) rfl rfl (HF9.out.at 8 (X:=.row 119 2 ra.1 E.length ra.2 (gQ E)) HEQ.out.2.2.2.2.2.1) (HF9.out.at 12 (X:=.row 48 3 a6 s6.ev.length c6 (kE s6.ev)) rfl) hn hE (by have:=HEL.out;omega));rw[<-HNE.out]at HTK;go_wp2_with fail
      refine HTK.out.mono ?_;rintro e w9 ⟨rfl,Q,xq,ae',ce',hQ,hxq,hT9⟩;have HT9:=az hT9;have HQ:=az hQ;have HXQ:=az hxq;clear hT9 HTK hQ hxq;go_wp2_with fail
      go_ret;refine⟨rfl,{ x with s:=s6.lD,g:=g6,m:=m7,h:=h7 },(ae',ce'),Q.map (λy=>(y,-((n:Int)+1))),rfl,rfl,HS7.out.1,HG.out.next HOK.out.1 HOK.out.2 HT6.out (qj HI.out.2.2.1) hIb HS7.out.2 g6 h7,by rw[dS];exact HQ.out,λy hy=>?_,?_⟩
      .obtain⟨z,hz,rfl⟩:=ek.1 hy;have h1:=(HT9.out.q z hz).2.1;have h2:=HXQ.out;show z.2.1<=1000;omega
      have h1:=HF9.out.take (r:=8) (l:=10) (P:=mG) (sz:=3) (T:=48) (T':=119) ⟨by decide,by decide,by decide⟩ ⟨by decide,by decide⟩ HEQ.out.2.2.2.2.1 HEQ.out.2.2.2.2.2.1 HEQ.out.2.2.2.2.2.2.1 (show _=Ob.row 48 3 a6 s6.ev.length c6 (kE s6.ev) from rfl) rfl (by decide) (by decide) (by decide) (by rw[<-HNE.out];exact HT9.out);rw[BV]at h1;have h2:=(h1.drop 13).AR 6 (X:=.xV ob 169 (mo*2)) (dk _ _) (by
       obtain⟨c,k1,k2,_⟩:Full w9 ob 169 (mo*2) (mo*2) (oC il):=h1.at 6 (X:=.full ob 169 (mo*2) (oC il)) rfl;exact⟨c,k1,k2⟩) (λk hk=>ag hk)
      refine h2.eq (λi=>?_);by_cases hi:i<14
      .rcases yI hi with rfl|rfl|rfl|rfl|rfl|rfl|rfl|rfl|rfl|rfl|rfl|rfl|rfl|rfl<;>first|rfl|exact HEQ.out.2.2.2.1|exact HEQ.out.2.2.2.2.2.2.2.1|exact HEQ.out.2.2.2.2.2.2.2.2
      repeat rw[eT _ _ (by omega)]
theorem BU(n:Nat)(a b c:Value):ep (ep (wm n a b) 0 (.int .i64 ((n:Int)+1))) 2 c=wm (n+1) a c:=by
 fB j
 unfold ep wm;by_cases i:j=2
 .subst i;rfl
 rw[aa i];by_cases e:j=0
 .rw[aj e,aj e];rfl
 rw[aa e,aa e,aa e];by_cases o:j=1
 .rw[aj o,aj o]
 rw[aa o,aa o,aa i,aa i]
theorem jF{w:World}{b:Nat}{x y:Value}{T:TypeId}(h:w.heap[b]? = some (.cells #[x,y] T (0,0))):w.cell? ⟨b,0,none⟩=some x/\w.cell? ⟨b,1,none⟩=some y/\b<w.heap.size:=⟨by simp[World.cell?,h],by simp[World.cell?,h],bz h⟩
theorem iA.ask{w0 w w':World}{O:Nat->Ob}{p:dz}{s:Pl}{g:eE}{mb:Nat}(h:iA w0 O w)(e0:O 0=.zS p s g mb)(e:zh p s g mb w s g w'):iA w0 O w':=by
 have u:(O 0).bs=λk=>ey p s g k\/k=mb:=by rw[e0];rfl
 refine (h.AR 0 (X:=.zS p s g mb) (w':=w') (by rw[u];exact e.o) e.m (λk y=>ag (by rw[u];exact y))).eq (λi=>?_);by_cases hi:i=0
 .rw[hi,iu,e0]
 rw[eT _ _ hi]
theorem iA.LB{w0 w w':World}{O:Nat->Ob}{p:dz}{s:Pl}{g:eE}{mb n c:Nat}{a:Option Addr}{xs:List Value}(h:iA w0 O w)(e0:O 0=.zS p s g mb)(y:zh p s g mb w s g w')(W:w'.ownsRow w.heap.size 3 1 (.slice a n c) n xs):iA w0 (fm O 12 (.row 3 1 a n c xs)) w':=by
 have H:(O 0).bs=λk=>ey p s g k\/k=mb:=by rw[e0];rfl
 have u:=λk e=>(dA W k (by rw[dr];exact e)).1;have Z:=h.split 0 12 (by decide) (X:=.zS p s g mb) (Y:=.row 3 1 a n c xs) (w':=w') (by rw[H];exact y.o) y.m (gw W (dc _)) (λk e=>ag (by rw[H];exact e)) (λk e=>ab (u k e)) (λk e G=>by
  have h2:=u k G;have h3:=h.lt (i:=0) (by rw[H];exact e);omega)
 refine Z.eq (λi=>?_);by_cases hi:i=12
 .rw[hi,iu,iu]
 rw[eT _ _ hi,eT _ _ hi];by_cases J:i=0
 .rw[J,iu,e0]
 rw[eT _ _ J]
theorem G5{w:World}{i n c:Nat}{ad:Option Addr}{l:List Nat}{j v:Nat}(h:w.ownsRow i 3 1 (.slice ad n c) n (l.map (λt:Nat=>Value.int .i64 (t:Int))))(o:l[j]? = some v):∃b,ad=some ⟨b,0,none⟩/\b<w.heap.size/\w.cell? ⟨b,j,none⟩=some (.int .i64 (v:Int)):=by
 have u:=(bu.1 o).1;have hn:n≠0:=λe=>by
  have:=h.1;rw[e,dS]at this;omega
 obtain⟨b,J,G⟩:=dM h hn;injection G with H _ y;subst H y;exact⟨b,rfl,(dA h b rfl).2.1,hZ h (by rw[eo,o];rfl)⟩
def D5(O:Nat->Ob)(bk n:Nat)(J:List (Sl×Int))(evv:Value)(w0 w':World):Prop:=∃(rb:Option Addr×Nat) (Q:List (Sl×Int)),Q.length=4/\(∀y,y∈Q->y.1.2.1<=600000000) /\
 iA w0 (fm (fm (fm O 7 (.full bk 81 3 (wm (n+1) evv (.slice rb.1 (J++Q).length rb.2)))) 9 (.row 121 2 rb.1 (J++Q).length rb.2 (gQ (J++Q)))) 11 (.lists 3 1 qE (J++Q))) w'
theorem EH{O:Nat->Ob}{x:oV}{I bk n:Nat}{rb:Option Addr×Nat}{J:List (Sl×Int)}{evv:Value}{w0 w:World}(hf:iA w0 O w)(e0:O 0=.zS x.p x.s x.g x.mb)(e1:O 1=.doc x.d x.m x.h)(e2:O 2=.one x.pb (.cells #[P0 x.mb,P0 x.h.mb] 74 (0,0)))(e7:O 7=.full bk 81 3 (wm n evv (.slice rb.1 J.length rb.2)))(e9:O 9=.row 121 2 rb.1 J.length rb.2 (gQ J))(aK:O 11=.lists 3 1 qE J)(aG:O 12=.nil)(hG:x.Good I)(a5:(x.s.q 2 0).length<=100000000)(hn:n<=1000000000)(hJ:J.length<=100000000): Calls prog 50 #[P0 bk,P0 x.pb] w λe w'=>e=.returned (.bool true)/\D5 O bk n J evv w0 w':=by
 have o:=az (ay e0 (ay e1 (ay e2 (ay e7 (ay e9 (ay aK aG))))));have HF:=az hf;have hM:tN x.p x.s x.g x.mb w:=hf.at 0 e0;have a3:=az hM.queue;have H:w.heap[x.pb]? = some (.cells #[P0 x.mb,P0 x.h.mb] 74 (0,0)):=hf.at 2 e2;obtain⟨p0,p1,aM⟩:=jF H;have W:Hid (x.m.q=x.s.q 2 0):=by
  obtain⟨ρ,hS⟩:=hG.Iy;exact hS.q
 obtain⟨l,hl⟩:∃l,l=x.s.q 2 0:=⟨_,rfl⟩;rw[<-hl]at a5 a3 W;clear e0 e1 e2 e7 e9 aK aG hG hf hM H hl;obtain⟨nq,a7⟩:∃nq,nq=l.length:=⟨_,rfl⟩;rw[<-a7]at a5 a3;have a6:=az a7;clear a7;go_in;go_wp2_with fail
 refine a3.out.mono ?_;rintro e w1 ⟨rfl,a4,aA⟩;have G:=az (HF.out.LB o.out.1 aA a4);have a0:Hid (D.dQ x.d x.m x.h w1):=G.out.at 1 o.out.2.1;have H:w1.heap[x.pb]? = some (.cells #[P0 x.mb,P0 x.h.mb] 74 (0,0)):=G.out.at 2 o.out.2.2.1;obtain⟨r0,r1,aR⟩:=jF H;have c7:w1.cell? ⟨x.h.mb,7,none⟩=some (.slice (x.h.ro 2 0).1 nq (x.h.ro 2 0).2):=by
  have:=(a0.out.mc 7 (by omega) (v:=.slice (x.h.ro 2 0).1 x.m.q.length (x.h.ro 2 0).2) rfl).1;rw[W.out,<-a6.out]at this;exact this
 have u:Hid (fM w1 3 (.slice (x.h.ro 2 0).1 nq (x.h.ro 2 0).2) (D.iI l)):=by
  have:=a0.out.Q;have e:D.iR x.m x.h 2 0=.slice (x.h.ro 2 0).1 nq (x.h.ro 2 0).2:=by rw[a6.out,<-W.out];rfl
  rw[e,W.out]at this;exact this
 obtain⟨a2,aF⟩:∃a2,a2=(x.h.ro 2 0).1:=⟨_,rfl⟩;obtain⟨c2,aH⟩:∃c2,c2=(x.h.ro 2 0).2:=⟨_,rfl⟩;rw[<-aF,<-aH]at c7 u;have a8:=az (gw a4 (dc _));clear a4 aA H a3 HF p0 p1 aM aF aH a0;obtain⟨a1,aI⟩:∃a1:Option Addr,a1=some ⟨w.heap.size,0,none⟩:=⟨_,rfl⟩;rw[<-aI]at G a8 ⊢;clear aI;go_wp2_with fail
 go_loopw [7,8] (λov iv wx=>∃i:Nat,i<=nq/\ov=.bool true/\iv=.int .i64 i/\Hid (w1.grownBy wx none)) (λ_ iv _=>nq-(intOf iv).toNat)
 case atStart=>exact⟨0,by omega,by simp,rfl,ax _ _⟩
 case round=>
  obtain⟨i,hi,rfl,rfl,Z⟩:=hrel;by_cases aN:i<nq
  .have aD:(i:Int)<(nq:Int):=by omega
   obtain⟨v,hv⟩:∃v,l[i]? = some v:=⟨_,bn (by rw[<-a6.out];exact aN)⟩;obtain⟨ba,rfl,k2,k3⟩:=G5 a8.out hv;have lr:=Z.out.size;have d0:=(bh Z.out (a:=⟨ba,i,none⟩) k2).1.trans k3;obtain⟨bb,oo,aP,aJ,aQ⟩:∃bb oo,a2=some ⟨bb,oo,none⟩/\w1.cell? ⟨bb,oo+i,none⟩=some (.int .i64 (v:Int))/\bb<w1.heap.size:=by
    cases a2 with
    | none=>
     rcases u.out with⟨_,h⟩|⟨g,off,cap,n',P,h,_⟩
     .have:l=[]:=by simpa[D.iI] using h
      rw[this]at hv;simp at hv
     cases h
    | some a=>
     rcases id u.out with⟨h,_⟩|⟨g,off,cap,n',P,h,_⟩
     .cases h
     injection h with h _ _;injection h with h;subst h;exact⟨g,off,rfl,u.out.cell.2 i _ (by unfold D.iI;rw[eo,hv];rfl),u.out.lt g rfl⟩
   subst aP;have f0:=(bh Z.out (a:=⟨bb,oo+i,none⟩) aQ).1.trans aJ
   go_wp2_with fail
   go_quiet (fail)
   go_wp2_with fail
   go_roundw
   case rel=>exact⟨i+1,by omega,by simp,by go_num,⟨Z.out.os,Z.out.tape,Z.out.output,Z.out.size,Z.out.block⟩⟩
   case measure=>simp[intOf];omega
  have aD:¬((i:Int)<(nq:Int)):=by omega
  have Y:=az (G.out.kept Z.out);go_wp2_with fail
  refine (az (IV (n:=n) (Ev:=wm n evv (.slice rb.1 J.length rb.2)) (Y.out.at 7 (X:=.full bk 81 3 (wm n evv (.slice rb.1 J.length rb.2))) o.out.2.2.2.1) rfl rfl (Y.out.at 9 (X:=.row 121 2 rb.1 J.length rb.2 (gQ J)) o.out.2.2.2.2.1) (Y.out.at 12 (X:=.row 3 1 a1 nq nq (l.map (λt:Nat=>Value.int .i64 (t:Int)))) rfl) hn hJ a5)).out.mono ?_;rintro e w9 ⟨rfl,Q,xq,aL,aO,hQ,aE,aB⟩;have a9:=az aB;go_wp2_with fail
  go_ret;refine⟨rfl,(aL,aO),Q.map (λy=>(y,-((n:Int)+1))),by rw[dS];exact (az (ay hQ aE)).out.1,λy hy=>?_,?_⟩
  .obtain⟨z,hz,rfl⟩:=ek.1 hy;have h1:=(a9.out.q z hz).2.1;show z.2.1<=_;omega
  have h1:=Y.out.take (r:=9) (l:=11) (P:=qE) (sz:=1) (T:=3) (T':=121) ⟨by decide,by decide,by decide⟩ ⟨by decide,by decide⟩ o.out.2.2.2.1 o.out.2.2.2.2.1 o.out.2.2.2.2.2.1 (show _=Ob.row 3 1 a1 nq nq (l.map (λt:Nat=>Value.int .i64 (t:Int))) from rfl) rfl (by decide) (by decide) (by decide) a9.out;rw[BU]at h1;refine h1.eq (λi=>?_);by_cases hi:i<14
  .rcases yI hi with rfl|rfl|rfl|rfl|rfl|rfl|rfl|rfl|rfl|rfl|rfl|rfl|rfl|rfl<;>first|rfl|exact o.out.2.2.2.2.2.2
  repeat rw[eT _ _ (by omega)]
end F
section
theorem EG(v:Value)(a:Option Addr)(n c:Nat)(Z:∃u y o,v=.slice u y o)(w:World):Calls prog 138 #[.agg #[v,.slice a n c]] w λe w'=>e=.returned (.bool (decide (n≠0)))/\w.grownBy w' none:=by
 obtain⟨u,y,o,rfl⟩:=Z;by_cases hn:n=0
 .have Y:=az hn;rw[show decide (n≠0)=false by simpa using hn];clear hn;go_in;go_wp2_with fail
  have W:=bf w (.cells #[.slice u y o,.slice a n c] 141);have H:=az (ah w (.cells #[.slice u y o,.slice a n c] 141) none);generalize J:w.alloc (.cells #[.slice u y o,.slice a n c] 141)=w1 at *;clear J;have G:w1.cell? ⟨w.heap.size,1,none⟩=some (.slice a n c):=by simp[World.cell?,W]
  have i:=gP w.heap.size 1 n c a w1 G;rw[show decide (n=0)=true by simpa using Y.out]at i;refine i.mono ?_;rintro e w2 ⟨rfl,rfl⟩;go_wp2_with fail
  go_ret;exact⟨rfl,H.out⟩
 have Y:=az hn;rw[show decide (n≠0)=true by simpa using hn];clear hn;go_in;go_wp2_with fail
 have W:=bf w (.cells #[.slice u y o,.slice a n c] 141);have H:=az (ah w (.cells #[.slice u y o,.slice a n c] 141) none);generalize J:w.alloc (.cells #[.slice u y o,.slice a n c] 141)=w1 at *;clear J;have G:w1.cell? ⟨w.heap.size,1,none⟩=some (.slice a n c):=by simp[World.cell?,W]
 have i:=gP w.heap.size 1 n c a w1 G;rw[show decide (n=0)=false by simpa using Y.out]at i;refine i.mono ?_;rintro e w2 ⟨rfl,rfl⟩;go_wp2_with fail
 go_ret;exact⟨rfl,H.out⟩
def tL(w:World)(eb:Nat)(L:Nat->Nat):Prop:=eb<w.heap.size/\∀j,j<4->(∃a n c,w.cell? ⟨eb,34+j*2,none⟩=some (.slice a n c))/\∃a c,w.cell? ⟨eb,34+j*2+1,none⟩=some (.slice a (L j) c)
theorem tL.kept{w w':World}{eb:Nat}{L:Nat->Nat}(h:tL w eb L)(i:w.grownBy w' none):tL w' eb L:=⟨dm h.1 i.size,λj u=>by
 obtain⟨⟨a,n,c,e⟩,G,y,o⟩:=h.2 j u;exact⟨⟨a,n,c,(bh i (a:=⟨eb,34+j*2,none⟩) h.1).1.trans e⟩,G,y,(bh i (a:=⟨eb,34+j*2+1,none⟩) h.1).1.trans o⟩⟩
theorem Du(eb:Nat)(L:Nat->Nat)(w:World)(h:tL w eb L):Calls prog 191 #[.slice (some ⟨eb,34,none⟩) 4 4,Fv 138 #[]] w λe w'=>(∃x:Int,e=.returned (.int .i64 x)/\(0<=x↔∃k,k<4/\L k≠0))/\w.grownBy w' none:=by
 have HS:=az h;go_in;go_wp2_with fail
 go_loopw [8] (λi wr=>∃j:Nat,i=.int .i64 j/\j<=4/\Hid (∀k,k<j->L k=0)/\Hid (w.grownBy wr none)) (λi _=>4-(intOf i).toNat)
 case atStart=>exact⟨0,rfl,by omega,(λk hk=>by omega),ax _ _⟩
 case round=>
  obtain⟨j,rfl,hj,rL,Y⟩:=hrel;have hS:=HS.out.kept Y.out;by_cases W:j<4
  .obtain⟨⟨a1,n1,c1,e1⟩,a2,c2,H⟩:=hS.2 j W;have J:(j:Int)<4:=by omega
   have o:=az (EG (.slice a1 n1 c1) a2 (L j) c2 ⟨_,_,_,rfl⟩ wr);by_cases G:L j=0
   .have Z:=az G;rw[show decide (L j≠0)=false by simpa using G]at o;clear G;go_wp2_with fail
    refine o.out.mono ?_;rintro e w2 ⟨rfl,u⟩;have y:=az (an Y.out u);clear u e1 H o;go_wp2_with fail
    go_roundw
    case rel=>
     refine⟨j+1,by simp,by omega,(λk hk=>?_),y⟩;by_cases e:k=j
     .rw[e];exact Z.out
     exact rL.out k (by omega)
    case measure=>simp[intOf];omega
   have Z:=az G;rw[show decide (L j≠0)=true by simpa using G]at o;clear G;go_wp2_with fail
   refine o.out.mono ?_;rintro e w2 ⟨rfl,u⟩;have y:=az (an Y.out u);clear u e1 H o;go_wp2_with fail
   go_ret;exact⟨⟨_,rfl,⟨λ_=>⟨j,W,Z.out⟩,λ_=>by omega⟩⟩,y.out⟩
  have J:¬((j:Int)<4):=by omega
  go_wp2_with fail
  go_ret;exact⟨⟨_,rfl,⟨λe=>ch e (by omega),λe=>by
   obtain⟨k,k1,k2⟩:=e;exact ch (rL.out k (by omega)) k2⟩⟩,Y.out⟩
theorem uc(eb:Nat)(L:Nat->Nat)(w:World)(h:tL w eb L):Calls prog 139 #[.slice (some ⟨eb,34,none⟩) 4 4,Fv 138 #[]] w λe w'=>(∃b:Bool,e=.returned (.bool b)/\(b=true↔∃k,k<4/\L k≠0))/\w.grownBy w' none:=by
 have HS:=az h;go_in;go_wp2_with fail
 refine(Du eb L w HS.out).mono ?_;rintro e w2 ⟨⟨x,rfl,hx⟩,hg2⟩;have KG2:=az hg2;have HX:=az hx;clear hg2 hx
 cases hd:decide (0<=x)
 .have HD:=az (by simpa using hd);go_wp2_with fail
  go_ret;exact⟨⟨_,rfl,⟨λe=>(by first|(cases e;done)|exact ch (by simpa using e:0<=x) (by have:=HD.out;omega)),λe=>ch (HX.out.2 e) (by have:=HD.out;omega)⟩⟩,KG2.out⟩
 have HD:=az (by simpa using hd);go_wp2_with fail
 go_ret;exact⟨⟨_,rfl,⟨λ_=>HX.out.1 HD.out,λ_=>by first|rfl|(simpa using HD.out)⟩⟩,KG2.out⟩
theorem Eh(eb n c:Nat)(L:Nat->Nat)(a:Option Addr)(w:World)(u:w.cell? ⟨eb,33,none⟩=some (.slice a n c))(h:tL w eb L):Calls prog 71 #[P0 eb] w λe w'=>(∃b:Bool,e=.returned (.bool b)/\(b=true↔(n≠0\/∃k,k<4/\L k≠0)))/\w.grownBy w' none:=by
 have HS:=az h;have le:=h.1;by_cases hn:n=0
 .have i:=gP eb 33 n c a w u;rw[show decide (n=0)=true by simpa using hn]at i;have o:=az i;have G:=az hn;go_in;go_wp2_with fail
  refine o.out.mono ?_;rintro e w1 ⟨rfl,rfl⟩;go_wp2_with fail
  refine(uc eb L _ HS.out).mono ?_;rintro e w2 ⟨⟨b,rfl,W⟩,y⟩;have H:=az y;have J:=az W;go_wp2_with fail
  go_ret;exact⟨⟨_,rfl,⟨λe=>ab (J.out.1 e),λe=>e.elim (λe=>ch G.out e) (λe=>J.out.2 e)⟩⟩,H.out⟩
 have i:=gP eb 33 n c a w u;rw[show decide (n=0)=false by simpa using hn]at i;have o:=az i;have G:=az hn;go_in;go_wp2_with fail
 refine o.out.mono ?_;rintro e w1 ⟨rfl,rfl⟩;go_wp2_with fail
 go_ret;exact⟨⟨_,rfl,⟨λ_=>ag G.out,λ_=>rfl⟩⟩,ax _ _⟩
def J0(sp:Bool)(n29 n32 n33:Nat)(L:Nat->Nat)(x:Int):Prop:=(sp=true->x=5)/\(sp=false->n29=0->x=4)/\(sp=false->n29≠0->n32≠0->x=1)/\(sp=false->n29≠0->n32=0->(n33≠0\/∃k,k<4/\L k≠0)->x=2)/\(sp=false->n29≠0->n32=0->¬(n33≠0\/∃k,k<4/\L k≠0)->x=3)
theorem Et(eb:Nat)(sp:Bool)(L:Nat->Nat)(y a8 G a5 Z a0:Nat)(a4 a1 a6:Option Addr)(w:World)(a9:w.cell? ⟨eb,42,none⟩=some (.bool sp))(a3:w.cell? ⟨eb,29,none⟩=some (.slice a4 y a8))(a2:w.cell? ⟨eb,32,none⟩=some (.slice a1 G a5))(a7:w.cell? ⟨eb,33,none⟩=some (.slice a6 Z a0))(h:tL w eb L): Calls prog 42 #[P0 eb] w λe w'=>(∃x:Int,e=.returned (.int .i64 x)/\J0 sp y G Z L x)/\w.grownBy w' none:=by
 have o:=uy eb y a8 a4 w a3;have i:=gP eb 32 G a5 a1 w a2;have HW:=az (Eh eb Z a0 L a6 w a7 h);have le:=h.1
 cases sp
 .by_cases H:y=0
  .have W:=az H;rw[show decide (0<y)=false by simpa using H]at o;have J:=az o;go_in;go_wp2_with fail
   refine J.out.mono ?_;rintro e w4 ⟨rfl,rfl⟩;go_wp2_with fail
   go_ret;exact⟨⟨4,rfl,(λe=>by cases e),(λ_ _=>rfl),(λ_ e=>ch W.out e),(λ_ e=>ch W.out e),(λ_ e=>ch W.out e)⟩,ax _ _⟩
  have W:=az H;rw[show decide (0<y)=true by simp;omega]at o;have J:=az o;by_cases u:G=0
  .have HQ:=az u;rw[show decide (G=0)=true by simpa using u]at i;have Y:=az i;go_in;go_wp2_with fail
   refine J.out.mono ?_;rintro e w4 ⟨rfl,rfl⟩;go_wp2_with fail
   refine Y.out.mono ?_;rintro e w5 ⟨rfl,rfl⟩;go_wp2_with fail
   refine HW.out.mono ?_;rintro e w6 ⟨⟨b,rfl,hb⟩,hg⟩;have KG:=az hg;have HB:=az hb
   cases b
   .go_wp2_with fail
    go_ret;exact⟨⟨3,rfl,(λe=>by cases e),(λ_ e=>ch e W.out),(λ_ _ e=>ch HQ.out e),(λ_ _ _ e=>by have h9:=HB.out.2 e;cases h9),(λ_ _ _ _=>rfl)⟩,KG.out⟩
   go_wp2_with fail
   go_ret;exact⟨⟨2,rfl,(λe=>by cases e),(λ_ e=>ch e W.out),(λ_ _ e=>ch HQ.out e),(λ_ _ _ _=>rfl),(λ_ _ _ e=>ch (HB.out.1 (by first|exact rfl|trivial)) e)⟩,KG.out⟩
  have HQ:=az u;rw[show decide (G=0)=false by simpa using u]at i;have Y:=az i;go_in;go_wp2_with fail
  refine J.out.mono ?_;rintro e w4 ⟨rfl,rfl⟩;go_wp2_with fail
  refine Y.out.mono ?_;rintro e w5 ⟨rfl,rfl⟩;go_wp2_with fail
  go_ret;exact⟨⟨1,rfl,(λe=>by cases e),(λ_ e=>ch e W.out),(λ_ _ _=>rfl),(λ_ _ e=>ch e HQ.out),(λ_ _ e=>ch e HQ.out)⟩,ax _ _⟩
 go_in;go_wp2_with fail
 go_ret;exact⟨⟨5,rfl,(λ_=>rfl),(λe=>by cases e),(λe=>by cases e),(λe=>by cases e),(λe=>by cases e)⟩,ax _ _⟩
end
namespace F
theorem GG{s:Pl}{x:Int}(h:J0 s.sp s.lv.length (s.q 2 0).length (s.q 3 0).length (λk=>(s.q 4 k).length) x):x=s.zp:=by
 obtain⟨Z,h2,h3,h4,h5⟩:=h;have W:((s.q 3 0).length≠0\/∃k,k<4/\(s.q 4 k).length≠0)↔yz s:=by
  have Y:∀l:List Nat,l.length≠0↔l≠[]:=λl=>not_congr cf;unfold yz;rw[Y];exact or_congr Iff.rfl (exists_congr (λk=>and_congr Iff.rfl (Y _)))
 unfold Pl.zp;by_cases J:s.sp=true
 .rw[aj J];exact Z J
 have i:s.sp=false:=by simpa using J
 rw[aa J];by_cases H:s.lv=[]
 .rw[aj H];exact h2 i (by rw[H];rfl)
 rw[aa H];have o:s.lv.length≠0:=λe=>H (cf.1 e);by_cases G:s.q 2 0=[]
 .have u:(s.q 2 0).length=0:=by rw[G];rfl
  rw[aa (λe=>e G)];by_cases y:yz s
  .rw[aj y];exact h4 i o u (W.2 y)
  rw[aa y];exact h5 i o u (λe=>y (W.1 e))
 rw[aj G];exact h3 i o (λe=>G (cf.1 e))
theorem yq{p:dz}{s:Pl}{g:eE}{w:World}(h:dQ p s g w): Calls prog 42 #[P0 p.eb] w λe w'=>e=.returned (.int .i64 s.zp)/\w.grownBy w' none:=by
 refine(Et p.eb s.sp (λk=>(s.q 4 k).length) s.lv.length (g.ro 6 0).2 (eH s 2 0) (g.ro 2 0).2 (eH s 3 0) (g.ro 3 0).2 (g.ro 6 0).1 (g.ro 2 0).1 (g.ro 3 0).1 w (h.E.cell 42 (by omega)) (h.E.cell 29 (by omega)) (h.E.cell 32 (by omega)) (h.E.cell 33 (by omega)) ⟨h.E.lt,λj y=>?_⟩).mono ?_
 .have i:j=0\/j=1\/j=2\/j=3:=by omega
  rcases i with rfl|rfl|rfl|rfl
  .exact⟨⟨_,_,_,h.E.cell 34 (by omega)⟩,_,_,h.E.cell 35 (by omega)⟩
  .exact⟨⟨_,_,_,h.E.cell 36 (by omega)⟩,_,_,h.E.cell 37 (by omega)⟩
  .exact⟨⟨_,_,_,h.E.cell 38 (by omega)⟩,_,_,h.E.cell 39 (by omega)⟩
  exact⟨⟨_,_,_,h.E.cell 40 (by omega)⟩,_,_,h.E.cell 41 (by omega)⟩
 rintro e w' ⟨⟨x,rfl,o⟩,u⟩;rw[GG o];exact⟨rfl,u⟩
theorem tN.yq{p:dz}{s:Pl}{g:eE}{mb:Nat}{w:World}(h:tN p s g mb w): Calls prog 25 #[P0 mb] w λe w'=>e=.returned (.int .i64 s.zp)/\zh p s g mb w s g w':=by
 obtain⟨c0,H,Z,y⟩:=h.cells;have i:(w.setCell ⟨mb,0,none⟩ (.int .i32 1)).heap.size=w.heap.size:=by simp[World.setCell]
 refine(wM mb p.eb w c0 H Z (λx w'=>x=s.zp/\(w.setCell ⟨mb,0,none⟩ (.int .i32 1)).grownBy w' none) ?_).mono ?_
 .refine(F.yq h.lock).mono ?_;rintro e w' ⟨rfl,k2⟩;have u:=k2.block mb (by rw[i];exact y) (by intro e;cases e);obtain⟨W,J,_⟩:=h.qD u;exact⟨_,rfl,W,J,rfl,k2⟩
 rintro e w' ⟨x,w1,rfl,⟨k1,k2⟩,rfl⟩;have u:=k2.block mb (by rw[i];exact y) (by intro e;cases e);obtain⟨_,_,Y⟩:=h.qD u;rw[k1];exact⟨rfl,⟨(h.lock.kept k2).off h.nm 0 _,h.ok,h.ev,Y,h.nm⟩,bm ((bm (S:=λk=>ey p s g k\/k=mb) (dk _ _) (ag (ab rfl)) _).gR k2) (ag (ab rfl)) _,λk G=>ag G⟩
theorem xU(mb eb:Nat)(w:World)(y:w.cell? ⟨mb,0,none⟩=some (.int .i32 0))(o:w.frozen? ⟨mb,0,none⟩=false)(H:w.cell? ⟨mb,2,none⟩=some (P0 eb))(R:Int->World->Prop)(i:Hid (Calls prog 44 #[P0 eb] (w.setCell ⟨mb,0,none⟩ (.int .i32 1)) λe w'=>∃x:Int,e=.returned (.int .i64 x)/\w'.cell? ⟨mb,0,none⟩=some (.int .i32 1)/\w'.frozen? ⟨mb,0,none⟩=false/\R x w')): Calls prog 28 #[P0 mb] w λe w'=>∃x w1,e=.returned (.int .i64 x)/\R x w1/\w'=w1.setCell ⟨mb,0,none⟩ (.int .i32 0):=by
 go_enter_defers func28,ntmps28
 go_wp2_with fail
 refine(pC mb w y o).mono ?_;rintro e w1 ⟨rfl,rfl⟩;go_wp2_with fail
 refine i.out.mono ?_;rintro e w2 ⟨x,rfl,c0,c1,hR⟩;have u:Hid (R x w2):=hR;go_wp2_with fail
 refine leaves_cons (f:=40) (args:=#[P0 mb]) (by simp) (by simp[go_sem]) ?_;refine(ja ⟨mb,0,none⟩ .returning _ c0 c1).mono ?_;rintro e G w'' ⟨rfl,rfl,rfl⟩;exact⟨_,results_tmp rfl _ _ _,x,w2,rfl,u.out,rfl⟩
theorem Ib(eb:Nat)(x:Int)(w:World)(h:w.cell? ⟨eb,28,none⟩=some (.int .i64 x)):Calls prog 44 #[P0 eb] w λe w'=>e=.returned (.int .i64 x)/\w'=w:=by
 go_in;go_wp2_with fail
 go_ret;exact⟨rfl,rfl⟩
theorem tN.clock{p:dz}{s:Pl}{g:eE}{mb:Nat}{w:World}(h:tN p s g mb w): Calls prog 28 #[P0 mb] w λe w'=>e=.returned (.int .i64 s.eY)/\zh p s g mb w s g w':=by
 obtain⟨c0,u,J,W⟩:=h.cells;refine(xU mb p.eb w c0 u J (λx w'=>x=s.eY/\w'=w.setCell ⟨mb,0,none⟩ (.int .i32 1)) ?_).mono ?_
 .refine(Ib p.eb s.eY _ (h.lock.E.cell 28 (by omega))).mono ?_;rintro e w' ⟨rfl,rfl⟩;obtain⟨G,y,_⟩:=h.qD rfl;exact⟨s.eY,rfl,G,y,rfl,rfl⟩
 rintro e w' ⟨x,w1,rfl,⟨rfl,rfl⟩,rfl⟩;obtain⟨_,_,H⟩:=h.qD rfl;exact⟨rfl,⟨h.lock.off h.nm 0 _,h.ok,h.ev,H,h.nm⟩,bm (bm (S:=λk=>ey p s g k\/k=mb) (dk _ _) (ag (ab rfl)) _) (ag (ab rfl)) _,λk o=>ag o⟩
theorem oV.Good.mono{x:oV}{I e:Nat}(h:x.Good I)(hI:I<=e):x.Good e:=by
 obtain⟨ρ,hS⟩:=h.Iy;have hn:=h.n1;exact { h with Iy:=⟨ρ,hS.mono (by omega)⟩,n1:=by omega }
theorem kM{x:Option oV}{I e:Nat}(h:ts x I)(hI:I<=e):ts x e:=by
 cases x with
 | none=>trivial
 | some x=>exact oV.Good.mono h hI
structure pS(w0:World) (t:St) (I:Nat) (w:World):Prop where
 Bn:t.iA w0 w
 gx:ts t.x I
 gy:ts t.y I
 mo:t.mo<=1000000008
 n:t.n<=I
 E:t.E.length<=4*I
 J:t.J.length<=4*I
 lE:∀y,y∈t.E->y.1.2.1<=1000000000
 lJ:∀y,y∈t.J->y.1.2.1<=1000000000
def Ir(t t':St):Prop:=t'.ob=t.ob/\t'.mo=t.mo/\t'.bk=t.bk/\pV t'.x=pV t.x/\pV t'.y=pV t.y
theorem pS.next{w0 w w':World}{t:St}{I:Nat}(h:pS w0 t I w)(e:t.iA w0 w'):pS w0 t (I+1) w':=
 ⟨e,kM h.gx (by omega),kM h.gy (by omega),h.mo,by have:=h.n;omega,by have:=h.E;omega,by have:=h.J;omega,h.lE,h.lJ⟩
theorem pS.swap{w0 w:World}{t:St}{I:Nat}(h:pS w0 t I w):pS w0 t.swap I w:=⟨h.Bn.swap,h.gy,h.gx,h.mo,h.n,h.E,h.J,h.lE,h.lJ⟩
theorem pS.Gx{w0 w w':World}{t:St}{x:oV}{I:Nat}(h:pS w0 t I w)(hx:t.x=some x)(ht:Gh t.O x I t.ob t.mo t.bk t.n t.E (.slice t.rb.1 t.J.length t.rb.2) w0 w'):∃H,pS w0 H (I+1) w'/\Ir t H:=by
 obtain⟨o,ra,Q,e1,G,W,hG,hQ,Z,Y⟩:=ht;have u:(t.E++Q).length<=4*(I+1):=by
  rw[bo,hQ];have:=h.E;omega
 refine⟨{ t with x:=some o,n:=t.n+1,ra:=ra,E:=t.E++Q },⟨Y.eq (λi=>?_),hG,kM h.gy (by omega),h.mo,by have:=h.n;show t.n+1<=_;omega,u,by have:=h.J;show t.J.length<=_;omega,λy e=>?_,h.lJ⟩,rfl,rfl,rfl,?_,rfl⟩
 .refine St.ext (λi hi=>?_) (λi hi=>?_) i
  .rcases yI hi with rfl|rfl|rfl|rfl|rfl|rfl|rfl|rfl|rfl|rfl|rfl|rfl|rfl|rfl
   .rfl
   .rfl
   .show Ob.one o.pb (.cells #[P0 o.mb,P0 o.h.mb] 74 (0,0))=oP t.x;rw[hx,e1,G,W];rfl
   all_goals rfl
  repeat rw[eT _ _ (by omega)]
  exact t.Ii (by omega)
 .rcases di.1 e with e|e
  .exact h.lE y e
  have:=Z y e;omega
 rw[hx];show P0 o.pb=P0 x.pb;rw[G]
theorem pS.queue{w0 w w':World}{t:St}{I:Nat}(h:pS w0 t I w)(ht:D5 t.O t.bk t.n t.J (.slice t.ra.1 t.E.length t.ra.2) w0 w'):∃u,pS w0 u (I+1) w'/\Ir t u:=by
 obtain⟨rb,Q,hQ,H,G⟩:=ht;have o:(t.J++Q).length<=4*(I+1):=by
  rw[bo,hQ];have:=h.J;omega
 refine⟨{ t with n:=t.n+1,rb:=rb,J:=t.J++Q },⟨G.eq (λi=>?_),kM h.gx (by omega),kM h.gy (by omega),h.mo,by have:=h.n;show t.n+1<=_;omega,by have:=h.E;show t.E.length<=_;omega,o,h.lE,λy e=>?_⟩,rfl,rfl,rfl,rfl,rfl⟩
 .refine St.ext (λi hi=>?_) (λi hi=>?_) i
  .rcases yI hi with rfl|rfl|rfl|rfl|rfl|rfl|rfl|rfl|rfl|rfl|rfl|rfl|rfl|rfl<;>rfl
  repeat rw[eT _ _ (by omega)]
  exact t.Ii (by omega)
 rcases di.1 e with e|e
 .exact h.lJ y e
 have:=H y e;omega
theorem FQ{t:St}{x:oV}{I:Nat}{w0 w:World}{kind hh ticks:Int}{ia:Option Addr}{gm ic:Nat}{il:List (Int×Nat)}(h:pS w0 t I w)(hx:t.x=some x)(hI:It w0 ia gm il)(aC:gm+8<=t.mo)(aG:I<=1048576)(aA:-9223372036854775808<=ticks)(a9:ticks<=9223372036854775807): Calls prog 33 #[P0 t.bk,P0 x.pb,.agg #[.int .i64 kind,.int .i64 hh,.int .i64 ticks,.slice ia gm ic],.slice (some ⟨t.ob,0,none⟩) t.mo t.mo,.bool false] w λe w'=>e=.returned (.bool true)/\∃t',pS w0 t' (I+1) w'/\Ir t t':=by
 have o:=az h;have HX:=az hx;have W:Hid (x.Good I):=by
  have:=h.gx;rw[hx]at this;exact this
 have i:Hid (t.O 0=.zS x.p x.s x.g x.mb/\t.O 1=.doc x.d x.m x.h/\t.O 2=.one x.pb (.cells #[P0 x.mb,P0 x.h.mb] 74 (0,0))):=⟨by show oA t.x=_;rw[hx];rfl,by show oB t.x=_;rw[hx];rfl,by show oP t.x=_;rw[hx];rfl⟩;have HI:=az hI;have a7:=az (ay aA a9);clear h hx hI aA a9;go_in;obtain⟨sb,Z⟩:∃sb,sb=w.heap.size:=⟨_,rfl⟩;have Y:=bf w (.cells #[.int .i64 kind,.int .i64 hh,.int .i64 ticks,.slice ia gm ic] 76);rw[<-Z]at Y;have y:=az (o.out.Bn.kept (ah w (.cells #[.int .i64 kind,.int .i64 hh,.int .i64 ticks,.slice ia gm ic] 76) none));go_upto_region 1 with fail
 generalize w.alloc (.cells #[.int .i64 kind,.int .i64 hh,.int .i64 ticks,.slice ia gm ic] 76)=w1 at *;rw[<-Z];obtain⟨b0,b1,b2,b3,aE⟩:=gp Y;have G:w1.heap[x.pb]? = some (.cells #[P0 x.mb,P0 x.h.mb] 74 (0,0)):=y.out.at 2 i.out.2.2;obtain⟨p0,p1,a6⟩:=jJ G;have HM:Hid (tN x.p x.s x.g x.mb w1):=y.out.at 0 i.out.1;clear Y G Z;by_cases k1:kind=1
 .subst k1;have a4:=az (IK (kind:=1) (hh:=hh) (ic:=ic) y.out i.out.1 i.out.2.1 i.out.2.2 (ob:=t.ob) (mo:=t.mo) rfl (bk:=t.bk) (n:=t.n) (ra:=t.ra) (E:=t.E) (itv:=.slice t.rb.1 t.J.length t.rb.2) rfl rfl rfl rfl rfl W.out HI.out aC o.out.mo (by have:=o.out.n;omega) (by have:=o.out.E;omega) (by omega) a7.out.1 a7.out.2);go_wp2_with fail
  refine a4.out.mono ?_;rintro e w2 ⟨rfl,hT⟩;have HT:=az hT;clear hT a4;go_wp2_with fail
  go_ret;exact⟨rfl,o.out.Gx HX.out HT.out⟩
 by_cases k2:kind=2
 .subst k2;have a3:=az HM.out.yq;go_wp2_with fail
  refine a3.out.mono ?_;rintro e w2 ⟨rfl,hg⟩;have H:=az (y.out.ask i.out.1 hg);have a8:Hid (Calls prog 49 #[P0 x.h.mb] w2 λe w'=>e=.returned (.int .i64 x.s.zp)/\w2.grownBy w' none):=by
   obtain⟨ρ,hS⟩:=W.out.Iy;exact D.GI (H.out.at 1 i.out.2.1) hS HM.out.ok W.out.n0
  have G:w2.heap[x.pb]? = some (.cells #[P0 x.mb,P0 x.h.mb] 74 (0,0)):=H.out.at 2 i.out.2.2;obtain⟨q0,q1,aD⟩:=jJ G;clear hg a3 G p0 p1 a6;go_wp2_with fail
  refine a8.out.mono ?_;rintro e w3 ⟨rfl,a0⟩;have aB:=az (H.out.kept a0);clear a0 a8;go_wp2_with fail
  go_ret;exact⟨by simp,t,o.out.next aB.out,rfl,rfl,rfl,rfl,rfl⟩
 by_cases k3:kind=3
 .subst k3;have a2:(x.s.q 2 0).length<=100000000:=by
   have hO:=HM.out.ok;have hl:fz x.s 2 0:=ag ⟨rfl,rfl⟩;have h1:=gn x.s.nt _ (hO.lw.c 2 0 hl) (λu hu=>hO.lt u (hO.ql 2 0 hl u hu));have h2:=W.out.n1;omega
  have a5:=az (EH (I:=I) y.out i.out.1 i.out.2.1 i.out.2.2 (bk:=t.bk) (n:=t.n) (rb:=t.rb) (J:=t.J) (evv:=.slice t.ra.1 t.E.length t.ra.2) rfl rfl rfl rfl W.out a2 (by have:=o.out.n;omega) (by have:=o.out.J;omega));clear a2;go_wp2_with fail
  refine a5.out.mono ?_;rintro e w2 ⟨rfl,hT⟩;have HT:=az hT;clear hT a5;go_wp2_with fail
  go_ret;exact⟨rfl,o.out.queue HT.out⟩
 by_cases k4:kind=4
 .subst k4;have a1:=az HM.out.clock;go_wp2_with fail
  refine a1.out.mono ?_;rintro e w2 ⟨rfl,hg⟩;have H:=az (y.out.ask i.out.1 hg);have hR:D.dQ x.d x.m x.h w2:=H.out.at 1 i.out.2.1;have c5:w2.cell? ⟨x.h.mb,5,none⟩=some (.int .i64 x.s.eY):=by
   have:=(hR.mc 5 (by omega) (v:=.int .i64 x.m.eY) rfl).1;obtain⟨ρ,hS⟩:=W.out.Iy;have e:x.m.eY=x.s.eY:=hS.ck;rw[e]at this;exact this
  have G:w2.heap[x.pb]? = some (.cells #[P0 x.mb,P0 x.h.mb] 74 (0,0)):=H.out.at 2 i.out.2.2;obtain⟨q0,q1,aD⟩:=jJ G;clear hg a1 G p0 p1 a6 hR;go_wp2_with fail
  go_ret;exact⟨by simp,t,o.out.next H.out,rfl,rfl,rfl,rfl,rfl⟩
 by_cases k5:kind=5
 .subst k5;go_wp2_with fail
  go_ret;exact⟨rfl,t,o.out.next y.out,rfl,rfl,rfl,rfl,rfl⟩
 by_cases k6:kind=6
 .subst k6;go_wp2_with fail
  go_ret;exact⟨rfl,t,o.out.next y.out,rfl,rfl,rfl,rfl,rfl⟩
 go_wp2_with fail
 go_ret;exact⟨rfl,t,o.out.next y.out,rfl,rfl,rfl,rfl,rfl⟩
end F
end Go.Proofs.YtnjiinbhbjpfkaaGreatDoor
