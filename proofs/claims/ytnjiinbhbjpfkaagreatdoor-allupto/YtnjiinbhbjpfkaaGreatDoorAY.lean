import Derived.Test.YtnjiinbhbjpfkaaGreatDoorAV
set_option maxRecDepth 100000
set_option maxHeartbeats 0
set_option linter.all false
namespace Go.Proofs.YtnjiinbhbjpfkaaGreatDoor
open Go.RowKit Go.Proofs.Tryz
namespace D
open F
variable {p:Dp}{m m':Dm}{g g':Dg}{w w':aa}
def yk(P:Nat->Bool):Nat->Nat
 |0=>0
 |n+1=>yk P n+if P (n+1)=true then 1 else 0
theorem Gm(P:Nat->Bool):∀n,DW (λt=>(1<=t/\t<=n)/\P t=true)<|yk P n
 |0=>⟨[],List.nodup_nil,λt=>⟨λh=>(by cases h),λh=>(by omega)⟩,rfl⟩
 | n+1=>by
  let⟨l,y,u,G⟩:=Gm P n;have i:n+1∉l:=λh=>by grind
  by_cases e:P (n+1)=true
  .refine⟨(n+1) :: l,List.nodup_cons.2 ⟨i,y⟩,λt=>?_,by rw[yk,bf e,G];rfl⟩;grind
  refine⟨l,y,λt=>?_,by rw[yk,av e,G];rfl⟩;grind
theorem Ft(h:dZ p m g w)(hn:m.nt≠0):Calls prog 77 #[P0 g.mb] w λe w'=>∃N:Nat,e=.returned (ah N)/\N<=m.nt/\GR m N/\w.grownBy w' none:=by
 let⟨tb,hb,hl,hm,Z⟩:=h.T hn;have c6:w.cell? ⟨g.mb,6,none⟩=some (.slice (some ⟨tb,0,none⟩) m.nt (g.ro 1 0).2):=by rw[<-hb];exact(h.mc 6 af rfl).1
 have a5:m.nt<=9223372036854775807:=by unfold maxLen at hm;omega
 have HF:=bj Z;have lt:=Z.lt;generalize g.mb=rb at*;go_in;go_wp2_with fail
 go_loopw[3,4] (λn i wr=>∃(N I:Nat),n=ah N/\i=ah I/\I<=m.nt/\N<=I/\Hid (N=yk (λt=>decide ((m.T t).how≠5)) I)/\Hid (iY w wr)) (λ_ i _=>m.nt-(intOf i).toNat)
 case atStart=>exact⟨0,0,rfl,rfl,af,af,rfl,aw _ _⟩
 case round=>
  obtain⟨N,I,rfl,rfl,hI,hN,J,H⟩:=hrel;have y:=λ(k:Nat) (y:k<w.heap.size)=>H.block k y ey;have d6:=(bd (a:=⟨rb,6,none⟩)<|y rb<|an w _ c6).trans c6;have o:=HF.block<|y tb lt;by_cases a4:I<m.nt
  .have hc:∀k,k<8->wr.cell? ⟨tb,I*8+k,none⟩=some (tC (m.T<|I+1) (js m g 5<|I+1) k):=λk y=>(o.cell (I*8+k) af).trans<|congrArg some<|rp m g (t:=I+1) af y af;have a1:(I:Int)<m.nt:=af
   have c1:wr.cell? ⟨tb,I*8+1,none⟩=some (ah ((m.T<|I+1).how:Int)):=hc 1 af;have u:yk (λt=>decide ((m.T t).how≠5)) (I+1)=yk (λt=>decide ((m.T t).how≠5)) I+if decide ((m.T<|I+1).how≠5)=true then 1 else 0:=rfl
   generalize (m.T<|I+1).how=hw at*;clear o hc;by_cases h5:hw=5
   .have Y:Hid (N=yk (λt=>decide ((m.T t).how≠5)) (I+1)):=by show _=_;rw[u,av ey];exact J
    go_wp2_with fail
    go_roundw
    case rel=>grind
    case measure=>simp[intOf];omega
   have W:¬((hw:Int)=5):=af
   have Y:Hid (N+1=yk (λt=>decide ((m.T t).how≠5)) (I+1)):=by show _=_;rw[u,bf ey];have:=J.out;omega
   go_wp2_with fail
   go_roundw
   case rel=>grind
   case measure=>simp[intOf];omega
  obtain rfl:I=m.nt:=by omega
  have G:GR m N:=by
   rw[J.out];let⟨l,l1,l2,l3⟩:=Gm (λt=>decide ((m.T t).how≠5)) m.nt;exact⟨l,l1,λt=>by grind,l3⟩
  have a0:=bj G;go_wp2_with fail
  go_ret;exact⟨N,rfl,af,a0,H⟩
def qZ(m:Dm)(how what I b:Nat):Prop:=
 (b=0/\∀u,1<=u->u<=I->¬((m.T u).how=how/\(m.T u).what=what))\/((1<=b/\b<=I)/\(m.T b).how=how/\(m.T b).what=what/\∀u,1<=u->u<=I->(m.T u).how=how->(m.T u).what=what->(m.T b).jI<=(m.T u).jI)
theorem qZ.no{how what I b:Nat}(h:qZ m how what I b)(hn:¬((m.T<|I+1).how=how/\(m.T<|I+1).what=what)):qZ m how what (I+1) b:=by
 rcases h with⟨y,o⟩|⟨y,o,Y,W⟩
 .exact ag ⟨y,λu i J=>by
   grind⟩
 exact ak ⟨⟨y.1,af⟩,o,Y,λu i J H G=>by
  grind⟩
theorem qZ.nE{how what I b:Nat}(h:qZ m how what I b)(H:b≠0)(hn:(m.T b).jI<=(m.T<|I+1).jI):qZ m how what (I+1) b:=by
 rcases h with⟨i,o⟩|⟨i,o,W,J⟩
 .omega
 exact ak ⟨⟨i.1,af⟩,o,W,λu G Z Y y=>by
  grind⟩
theorem qZ.take{how what I b:Nat}(h:qZ m how what I b)(Y:(m.T<|I+1).how=how)(H:(m.T<|I+1).what=what)(hb:b=0\/(m.T<|I+1).jI<(m.T b).jI):qZ m how what (I+1) (I+1):=by
 refine ak ⟨⟨af,bm _⟩,Y,H,λu y Z i o=>?_⟩;by_cases e:u=I+1
 .grind
 rcases h with⟨W,G⟩|⟨W,G,h2,J⟩
 .grind
 grind
theorem my(w:aa)(Z u J o G i H Y:Value):∃W,w.alloc (.cells #[Z,u,J,o,G,i,H,Y] 167)=W/\W.cell? (az w.heap.size 1)=some u/\W.cell? (az w.heap.size 3)=some o/\W.cell? (az w.heap.size 4)=some G/\W.cell? (az w.heap.size 5)=some i/\w.heap.size<W.heap.size/\w.grownBy W none/\(∀a v,w.cell? a=some v->W.cell? a=some v):=by
 have y:=bl w<|.cells #[Z,u,J,o,G,i,H,Y] 167;have hg:=aj w (.cells #[Z,u,J,o,G,i,H,Y] 167) none;generalize w.alloc (.cells #[Z,u,J,o,G,i,H,Y] 167)=W at*;refine⟨_,rfl,fj y,fj y,fj y,fj y,ch y,hg,λa v h=>?_⟩;exact(bd<|hg.block a.block (an w _ h) ey).trans h
def Ef{tb cap:Nat}{wr:aa}(i:Full wr tb 167 (cap*8) (m.nt*8) (tE m g)){N k:Nat}(u:N≠0)(o:N<=m.nt)(e:k<8):wr.cell? (az tb<|(N-1)*8+k)=some (tC (m.T N) (js m g 5 N) k):=(i.cell ((N-1)*8+k) af).trans<|congrArg some<|rp m g (t:=N) af e rfl
theorem A1(h:dZ p m g w)(hn:m.nt≠0)(how what:Nat):Calls prog 192 #[P0 g.mb,ah how,ah what] w λe w'=>∃b:Nat,e=.returned (ah b)/\b<=m.nt/\LN m how what b/\w.grownBy w' none:=by
 obtain⟨tb,hb,hl,hm,hF⟩:=h.T hn;have c6:w.cell? ⟨g.mb,6,none⟩=some (.slice (some ⟨tb,0,none⟩) m.nt (g.ro 1 0).2):=by rw[<-hb];exact(h.mc 6 af rfl).1
 have aE:m.nt<=9223372036854775807:=by unfold maxLen at hm;omega
 have HF:=bj hF;have lt:=hF.lt;clear hF hm hb hl h;generalize g.mb=rb at*;go_in;go_wp2_with fail
 go_loopw[7,8] (λn i wr=>∃(N I:Nat),n=ah N/\i=ah I/\I<=m.nt/\N<=I/\Hid (qZ m how what I N)/\Hid (iY w wr)) (λ_ i _=>m.nt-(intOf i).toNat)
 case atStart=>exact⟨0,0,rfl,rfl,af,af,ag ⟨rfl,λu u1 u2=>by omega⟩,aw _ _⟩
 case round=>
  obtain⟨N,I,rfl,rfl,hI,hN,Z,Y⟩:=hrel;have hk:=λ(k:Nat) (hk:k<w.heap.size)=>Y.block k hk je;have d6:=(bd (a:=⟨rb,6,none⟩)<|hk rb<|an w _ c6).trans c6;have a0:=HF.block<|hk tb lt;have aC:=a0.lt;have aG:rb<wr.heap.size:=an wr _ d6;clear hk;by_cases aD:I<m.nt
  .have hc:∀k,k<8->wr.cell? ⟨tb,I*8+k,none⟩=some (tC (m.T<|I+1) (js m g 5<|I+1) k):=λk hk=>(a0.cell (I*8+k) af).trans<|congrArg some<|rp m g (t:=I+1) af hk af;have aB:(I:Int)<m.nt:=af
   have a6:N≠0->wr.cell? ⟨tb,(N-1)*8+5,none⟩=some (ah ((m.T N).jI:Int)):=λh=>Ef a0 h af af;have c0:wr.cell? ⟨tb,I*8,none⟩=some (.slice (g.ro 5<|I+1).1 (m.T<|I+1).fr.length (g.ro 5<|I+1).2):=hc 0 af;have c1:wr.cell? ⟨tb,I*8+1,none⟩=some (ah ((m.T<|I+1).how:Int)):=hc 1 af;have c2:wr.cell? ⟨tb,I*8+2,none⟩=some (ah (m.T<|I+1).into):=hc 2 af;have c3:wr.cell? ⟨tb,I*8+3,none⟩=some (ah ((m.T<|I+1).what:Int)):=hc 3 af;have c4:wr.cell? ⟨tb,I*8+4,none⟩=some (ah (m.T<|I+1).me):=hc 4 af;have c5:wr.cell? ⟨tb,I*8+5,none⟩=some (ah ((m.T<|I+1).jI:Int)):=hc 5 af;have aF:wr.cell? ⟨tb,I*8+6,none⟩=some (ah ((m.T<|I+1).out.1:Int)):=hc 6 af;have c7:wr.cell? ⟨tb,I*8+7,none⟩=some (ah (m.T<|I+1).out.2):=hc 7 af;generalize (g.ro 5<|I+1).1=a1 at*;generalize (g.ro 5<|I+1).2=a2 at*;generalize hx:m.T (I+1)=x at*;clear hc a0;by_cases h1:x.how=how
   .by_cases h2:x.what=what
    .by_cases h3:N=0
     .have K:=bj<|Z.take (eZ hx h1) (eZ hx h2)<|ag h3;clear Z;go_wp2_with fail
      obtain⟨W,J,f1,f3,f4,f5,lW,G,o⟩:=my wr _ _ _ _ _ _ _ _;rw[J];have y:=bj<|ar Y G
      clear J o G Y;go_quiet (fail)
      go_wp2_with fail
      go_roundw
      case rel=>exact⟨I+1,I+1,iI,iI,af,af,K,⟨y.os,y.tape,y.output,y.size,y.block⟩⟩
      case measure=>simp[intOf];omega
     have j3:¬((N:Int)=0):=af
     by_cases h4:x.jI<(m.T N).jI
     .have j4:(x.jI:Int)<((m.T N).jI:Int):=af
      have K:=bj<|Z.take (eZ hx h1) (eZ hx h2)<|ak<|eZ hx h4;clear Z;go_wp2_with fail
      obtain⟨W,J,f1,f3,f4,f5,lW,G,o⟩:=my wr _ _ _ _ _ _ _ _;rw[J];have e6:=o _ _ d6;have y:=bj<|ar Y G
      have a5:=o _ _<|a6 h3
      have aA:((N:Int) == 0)=false:=iE j3
      have a4:IntKind.i64.wrap ((N:Int)-1)=((N-1:Nat):Int):=by simp[IntKind.wrap,IntKind.bits,IntKind.signed];omega
      have a3:N-1<m.nt:=af
      generalize N-1=M at a5 a4 a3;have a8:(M:Int)<m.nt:=af
      clear J o G Y;go_quiet (fail)
      go_wp2_with fail
      go_roundw
      case rel=>exact⟨I+1,I+1,iI,iI,af,af,K,⟨y.os,y.tape,y.output,y.size,y.block⟩⟩
      case measure=>simp[intOf];omega
     have j4:¬((x.jI:Int)<((m.T N).jI:Int)):=af
     have K:=bj<|Z.nE h3<|lD hx;clear Z;go_wp2_with fail
     obtain⟨W,J,f1,f3,f4,f5,lW,G,o⟩:=my wr _ _ _ _ _ _ _ _;rw[J];have e6:=o _ _ d6;have y:=bj<|ar Y G
     have a5:=o _ _<|a6 h3
     have aA:((N:Int) == 0)=false:=iE j3
     have a4:IntKind.i64.wrap ((N:Int)-1)=((N-1:Nat):Int):=by simp[IntKind.wrap,IntKind.bits,IntKind.signed];omega
     have a3:N-1<m.nt:=af
     generalize N-1=M at a5 a4 a3;have a8:(M:Int)<m.nt:=af
     clear J o G Y;go_quiet (fail)
     go_wp2_with fail
     go_roundw
     case rel=>exact⟨N,I+1,iI,iI,af,af,K,⟨y.os,y.tape,y.output,y.size,y.block⟩⟩
     case measure=>simp[intOf];omega
    have j2:¬((x.what:Int)=what):=af
    have b2:((x.what:Int) == (what:Int))=false:=iE j2
    have K:=bj<|Z.no (by rw[hx];exact λe=>h2 e.2);clear Z;go_wp2_with fail
    obtain⟨W,J,f1,f3,f4,f5,lW,G,o⟩:=my wr _ _ _ _ _ _ _ _;rw[J];have y:=bj<|ar Y G
    clear J o G Y;go_quiet (fail)
    go_wp2_with fail
    go_roundw
    case rel=>exact⟨N,I+1,iI,iI,af,af,K,⟨y.os,y.tape,y.output,y.size,y.block⟩⟩
    case measure=>simp[intOf];omega
   have j1:¬((x.how:Int)=how):=af
   have b1:((x.how:Int) == (how:Int))=false:=iE j1
   have K:=bj<|Z.no (by rw[hx];exact λe=>h1 e.1);clear Z;go_wp2_with fail
   obtain⟨W,J,f1,f3,f4,f5,lW,G,o⟩:=my wr _ _ _ _ _ _ _ _;rw[J];have y:=bj<|ar Y G
   clear J o G Y;go_quiet (fail)
   go_wp2_with fail
   go_roundw
   case rel=>exact⟨N,I+1,iI,iI,af,af,K,⟨y.os,y.tape,y.output,y.size,y.block⟩⟩
   case measure=>simp[intOf];omega
  obtain rfl:I=m.nt:=by omega
  have a9:Hid (LN m how what N):=by
   rcases Z with⟨h0,h1⟩|⟨h0,h1,h2,h3⟩
   .exact ag ⟨h0,λu hu=>h1 u hu.1 hu.2⟩
   exact ak ⟨h0,h1,h2,λu hu=>h3 u hu.1 hu.2⟩
  clear a0 Z;go_wp2_with fail
  go_ret;exact⟨N,rfl,af,a9,Y⟩
def wu(m:Dm)(time:Int)(I b:Nat):Prop:=
 (b=0/\∀u,1<=u->u<=I->¬((m.T u).how=2/\(m.T u).me<=time))\/((1<=b/\b<=I)/\(m.T b).how=2/\(m.T b).me<=time/\∀u,1<=u->u<=I->(m.T u).how=2->(m.T u).me<=time->zE (m.T b) (m.T u))
theorem wu.no{i:Int}{I b:Nat}(h:wu m i I b)(hn:¬((m.T<|I+1).how=2/\(m.T<|I+1).me<=i)):wu m i (I+1) b:=by
 rcases h with⟨G,y⟩|⟨G,y,Y,W⟩
 .exact ag ⟨G,λu o Z=>by
   grind⟩
 exact ak ⟨⟨G.1,af⟩,y,Y,λu o Z J H=>by
  grind⟩
theorem wu.nE{i:Int}{I b:Nat}(h:wu m i I b)(J:b≠0)(hn:zE (m.T b) (m.T<|I+1)):wu m i (I+1) b:=by
 rcases h with⟨o,y⟩|⟨o,y,Y,W⟩
 .omega
 exact ak ⟨⟨o.1,af⟩,y,Y,λu H u2 Z G=>by
  grind⟩
theorem wu.take{i:Int}{I b:Nat}(h:wu m i I b)(Z:(m.T<|I+1).how=2)(J:(m.T<|I+1).me<=i)(hb:b=0\/(m.T<|I+1).me<(m.T b).me\/((m.T<|I+1).me=(m.T b).me/\(m.T<|I+1).jI<(m.T b).jI)):wu m i (I+1) (I+1):=by
 refine ak ⟨⟨af,bm _⟩,Z,J,λu G u2 o y=>?_⟩;unfold zE;by_cases e:u=I+1
 .grind
 rcases h with⟨Y,H⟩|⟨Y,H,h2,W⟩
 .grind
 grind[zE]
theorem OP(h:dZ p m g w)(hn:m.nt≠0):Calls prog 143 #[P0 g.mb] w λe w'=>∃b:Nat,e=.returned (ah b)/\b<=m.nt/\LO m b/\w.grownBy w' none:=by
 have C5:=bj<|(h.mc 5 af rfl).1;obtain⟨tb,hb,hl,hm,hF⟩:=h.T hn;have c6:w.cell? ⟨g.mb,6,none⟩=some (.slice (some ⟨tb,0,none⟩) m.nt (g.ro 1 0).2):=by rw[<-hb];exact(h.mc 6 af rfl).1
 have aG:m.nt<=9223372036854775807:=by unfold maxLen at hm;omega
 have HF:=bj hF;have lt:=hF.lt;clear hF hm hb hl h;generalize g.mb=rb at*;go_in;go_wp2_with fail
 go_loopw[3,4] (λn i wr=>∃(N I:Nat),n=ah N/\i=ah I/\I<=m.nt/\N<=I/\Hid (wu m m.clk I N)/\Hid (iY w wr)) (λ_ i _=>m.nt-(intOf i).toNat)
 case atStart=>exact⟨0,0,rfl,rfl,af,af,ag ⟨rfl,λu u1 u2=>by omega⟩,aw _ _⟩
 case round=>
  obtain⟨N,I,rfl,rfl,hI,hN,Z,Y⟩:=hrel;have hk:=λ(k:Nat) (hk:k<w.heap.size)=>Y.block k hk je;have d6:=(bd (a:=⟨rb,6,none⟩)<|hk rb<|an w _ c6).trans c6;have d5:wr.cell? ⟨rb,5,none⟩=some (ah m.clk):=(bd (a:=⟨rb,5,none⟩)<|hk rb<|an w _ c6).trans C5;have a6:=HF.block<|hk tb lt;have aE:=a6.lt;have aI:rb<wr.heap.size:=an wr _ d6;clear hk;by_cases aF:I<m.nt
  .have hc:∀k,k<8->wr.cell? ⟨tb,I*8+k,none⟩=some (tC (m.T<|I+1) (js m g 5<|I+1) k):=λk hk=>(a6.cell (I*8+k) af).trans<|congrArg some<|rp m g (t:=I+1) af hk af;have aD:(I:Int)<m.nt:=af
   have a7:N≠0->wr.cell? ⟨tb,(N-1)*8+4,none⟩=some (ah (m.T N).me):=λh=>Ef a6 h af af;have a8:N≠0->wr.cell? ⟨tb,(N-1)*8+5,none⟩=some (ah ((m.T N).jI:Int)):=λh=>Ef a6 h af af;have c0:wr.cell? ⟨tb,I*8,none⟩=some (.slice (g.ro 5<|I+1).1 (m.T<|I+1).fr.length (g.ro 5<|I+1).2):=hc 0 af;have c1:wr.cell? ⟨tb,I*8+1,none⟩=some (ah ((m.T<|I+1).how:Int)):=hc 1 af;have c2:wr.cell? ⟨tb,I*8+2,none⟩=some (ah (m.T<|I+1).into):=hc 2 af;have c3:wr.cell? ⟨tb,I*8+3,none⟩=some (ah ((m.T<|I+1).what:Int)):=hc 3 af;have c4:wr.cell? ⟨tb,I*8+4,none⟩=some (ah (m.T<|I+1).me):=hc 4 af;have c5:wr.cell? ⟨tb,I*8+5,none⟩=some (ah ((m.T<|I+1).jI:Int)):=hc 5 af;have aH:wr.cell? ⟨tb,I*8+6,none⟩=some (ah ((m.T<|I+1).out.1:Int)):=hc 6 af;have c7:wr.cell? ⟨tb,I*8+7,none⟩=some (ah (m.T<|I+1).out.2):=hc 7 af;generalize (g.ro 5<|I+1).1=a1 at*;generalize (g.ro 5<|I+1).2=a2 at*;generalize hx:m.T (I+1)=x at*;clear hc a6;by_cases h1:x.how=2
   .by_cases h2:x.me<=m.clk
    .have j2:¬(m.clk<x.me):=af
     by_cases h3:N=0
     .have K:=bj<|Z.take (eZ hx h1) (eZ hx h2)<|ag h3;clear Z;go_wp2_with fail
      obtain⟨W,J,f1,f3,f4,f5,lW,G,o⟩:=my wr _ _ _ _ _ _ _ _;rw[J];have e5:=o _ _ d5;have y:=bj<|ar Y G
      clear J o G Y;go_quiet (fail)
      go_wp2_with fail
      go_quiet (fail)
      go_wp2_with fail
      go_roundw
      case rel=>exact⟨I+1,I+1,iI,iI,af,af,K,⟨y.os,y.tape,y.output,y.size,y.block⟩⟩
      case measure=>simp[intOf];omega
     have j3:¬((N:Int)=0):=af
     by_cases h4:x.me<(m.T N).me
     .skip
      have K:=bj<|Z.take (eZ hx h1) (eZ hx h2)<|ak<|ag<|eZ hx h4;clear Z;go_wp2_with fail
      obtain⟨W,J,f1,f3,f4,f5,lW,G,o⟩:=my wr _ _ _ _ _ _ _ _;rw[J];have e6:=o _ _ d6;have e5:=o _ _ d5;have y:=bj<|ar Y G
      have a5:=o _ _<|a7 h3;have a4:=o _ _<|a8 h3
      have aB:((N:Int) == 0)=false:=iE j3
      have a3:IntKind.i64.wrap ((N:Int)-1)=((N-1:Nat):Int):=by simp[IntKind.wrap,IntKind.bits,IntKind.signed];omega
      have a0:N-1<m.nt:=af
      generalize N-1=M at a5 a4 a3 a0;have aA:(M:Int)<m.nt:=af
      clear J o G Y;go_quiet (fail)
      go_wp2_with fail
      go_quiet (fail)
      go_wp2_with fail
      go_roundw
      case rel=>exact⟨I+1,I+1,iI,iI,af,af,K,⟨y.os,y.tape,y.output,y.size,y.block⟩⟩
      case measure=>simp[intOf];omega
     by_cases h5:x.me=(m.T N).me
     .by_cases h6:x.jI<(m.T N).jI
      .have j6:(x.jI:Int)<((m.T N).jI:Int):=af
       have K:=bj<|Z.take (eZ hx h1) (eZ hx h2)<|ak<|ak (by rw[hx];exact⟨h5,h6⟩);clear Z;go_wp2_with fail
       obtain⟨W,J,f1,f3,f4,f5,lW,G,o⟩:=my wr _ _ _ _ _ _ _ _;rw[J];have e6:=o _ _ d6;have e5:=o _ _ d5;have y:=bj<|ar Y G
       have a5:=o _ _<|a7 h3;have a4:=o _ _<|a8 h3
       have aB:((N:Int) == 0)=false:=iE j3
       have a3:IntKind.i64.wrap ((N:Int)-1)=((N-1:Nat):Int):=by simp[IntKind.wrap,IntKind.bits,IntKind.signed];omega
       have a0:N-1<m.nt:=af
       generalize N-1=M at a5 a4 a3 a0;have aA:(M:Int)<m.nt:=af
       clear J o G Y;go_quiet (fail)
       go_wp2_with fail
       go_quiet (fail)
       go_wp2_with fail
       go_roundw
       case rel=>exact⟨I+1,I+1,iI,iI,af,af,K,⟨y.os,y.tape,y.output,y.size,y.block⟩⟩
       case measure=>simp[intOf];omega
      have j6:¬((x.jI:Int)<((m.T N).jI:Int)):=af
      have K:=bj<|Z.nE h3 (by rw[hx];unfold zE;omega);clear Z;go_wp2_with fail
      obtain⟨W,J,f1,f3,f4,f5,lW,G,o⟩:=my wr _ _ _ _ _ _ _ _;rw[J];have e6:=o _ _ d6;have e5:=o _ _ d5;have y:=bj<|ar Y G
      have a5:=o _ _<|a7 h3;have a4:=o _ _<|a8 h3
      have aB:((N:Int) == 0)=false:=iE j3
      have a3:IntKind.i64.wrap ((N:Int)-1)=((N-1:Nat):Int):=by simp[IntKind.wrap,IntKind.bits,IntKind.signed];omega
      have a0:N-1<m.nt:=af
      generalize N-1=M at a5 a4 a3 a0;have aA:(M:Int)<m.nt:=af
      clear J o G Y;go_quiet (fail)
      go_wp2_with fail
      go_quiet (fail)
      go_wp2_with fail
      go_roundw
      case rel=>exact⟨N,I+1,iI,iI,af,af,K,⟨y.os,y.tape,y.output,y.size,y.block⟩⟩
      case measure=>simp[intOf];omega
     have b5:(x.me == (m.T N).me)=false:=iE h5
     have d4:=eV h4;have K:=bj<|Z.nE h3 (by rw[hx];unfold zE;omega);clear Z;go_wp2_with fail
     obtain⟨W,J,f1,f3,f4,f5,lW,G,o⟩:=my wr _ _ _ _ _ _ _ _;rw[J];have e6:=o _ _ d6;have e5:=o _ _ d5;have y:=bj<|ar Y G
     have a5:=o _ _<|a7 h3;have a4:=o _ _<|a8 h3
     have aB:((N:Int) == 0)=false:=iE j3
     have a3:IntKind.i64.wrap ((N:Int)-1)=((N-1:Nat):Int):=by simp[IntKind.wrap,IntKind.bits,IntKind.signed];omega
     have a0:N-1<m.nt:=af
     generalize N-1=M at a5 a4 a3 a0;have aA:(M:Int)<m.nt:=af
     clear J o G Y;go_quiet (fail)
     go_wp2_with fail
     go_quiet (fail)
     go_wp2_with fail
     go_roundw
     case rel=>exact⟨N,I+1,iI,iI,af,af,K,⟨y.os,y.tape,y.output,y.size,y.block⟩⟩
     case measure=>simp[intOf];omega
    have j2:m.clk<x.me:=af
    have K:=bj<|Z.no (by rw[hx];exact λe=>h2 e.2);clear Z;go_wp2_with fail
    obtain⟨W,J,f1,f3,f4,f5,lW,G,o⟩:=my wr _ _ _ _ _ _ _ _;rw[J];have e5:=o _ _ d5;have y:=bj<|ar Y G
    clear J o G Y;go_quiet (fail)
    go_wp2_with fail
    go_roundw
    case rel=>exact⟨N,I+1,iI,iI,af,af,K,⟨y.os,y.tape,y.output,y.size,y.block⟩⟩
    case measure=>simp[intOf];omega
   have j1:¬((x.how:Int)=2):=af
   have aJ:((x.how:Int) != 2)=true:=iE j1
   have K:=bj<|Z.no (by rw[hx];exact λe=>h1 e.1);clear Z;go_wp2_with fail
   obtain⟨W,J,f1,f3,f4,f5,lW,G,o⟩:=my wr _ _ _ _ _ _ _ _;rw[J];have y:=bj<|ar Y G
   clear J o G Y;go_quiet (fail)
   go_wp2_with fail
   go_roundw
   case rel=>exact⟨N,I+1,iI,iI,af,af,K,⟨y.os,y.tape,y.output,y.size,y.block⟩⟩
   case measure=>simp[intOf];omega
  obtain rfl:I=m.nt:=by omega
  have aC:Hid (LO m N):=by
   rcases Z with⟨h0,h1⟩|⟨h0,h1,h2,h3⟩
   .exact ag ⟨h0,λu hu=>h1 u hu.1 hu.2⟩
   exact ak ⟨h0,h1,h2,λu hu=>h3 u hu.1 hu.2⟩
  clear a6 Z d5;go_wp2_with fail
  go_ret;exact⟨N,rfl,af,aC,Y⟩
end D
section
variable {o:Oper}{w:aa}
def Je(w w':aa)(ao:Option Addr)(n cap m:Nat)(v':Value):Prop:=(v'=.slice ao (n+m) cap/\w.grownBy w' (Value.slice ao n cap).ownBlock)\/∃g c,v'=.slice (some ⟨g,0,none⟩) (n+m) c/\w.heap.size<=g/\w.grownBy w' none
theorem vX{P:Program}(w:aa)(t ty e:TypeId)(i:TypeInfo)(z:Value)(size bytes:Nat)(ht:P.underlying t=some (.slice e))(hi:P.info? e=some i)(hz:i.zero=some z)(y:i.size=size)(a3:i.bytes=bytes)(a1:z.cells.size=size)(a4:0<size)(ao:Option Addr)(n cap:Nat)(xs:List Value)(a0:w.ownsRow 0 e size (.slice ao n cap) n xs)(ad:Addr)(m c:Nat)(o:List Value)(hl:o.length=m*size)(H:∀j u,o[j]?=some u->w.cell? (ad.add j)=some u)(h1:∀u∈o,u.oneCell'=true)(a2:n+m<=maxLen)(G:(n+m)*bytes<=140737488355328)(hm:0<m):∃J w',(Builtin.append_ #[t,t] ty #[.slice ao n cap,.slice (some ad) m c]).run P w=.ok J w'/\w'.ownsRow 0 e size J (n+m) (xs++o)/\Je w w' ao n cap m J:=by
 have Z:∀(J:Value) (w':aa),w'.ownsRow (fp w) e size J (n+m) (xs++o)->∃g c,J=dD g (n+m) c/\w.heap.size<=g:=λJ w' h=>by
  obtain⟨g,c',rfl⟩:=ef h af;exact⟨g,c',rfl,(dR h g rfl).1⟩
 rcases id a0 with⟨a7,⟨hv,h0⟩|⟨g,c',a8,hv,_,h2,h3,h4,h5,h6⟩⟩
 .injection hv with e1 e2 e3;subst e1 e2 e3;obtain rfl:xs=[]:=List.eq_nil_of_length_eq_zero af;let⟨J,w',W,r1,r2,_⟩:=run_append_own (P:=P) w (fp w) t ty e i z size bytes ht hi hz y a3 a1 a4 (.slice none 0 0) 0 [] (eg w _ e size) ad m c o hl H h1 a2 G<|bm _;obtain⟨g,c',rfl,hg⟩:=Z J w' r1;exact⟨_,w',W,ib r1<|di _,ak ⟨g,c',rfl,hg,r2⟩⟩
 injection hv with e1 e2 e3;subst e1 e3;by_cases Y:n+m<=cap
 .let⟨J,w',hr,r1,r2,_⟩:=run_append_own (P:=P) w 0 t ty e i z size bytes ht hi hz y a3 a1 a4 _ n xs a0 ad m c o hl H h1 a2 G<|di _;refine⟨J,w',hr,r1,ag ⟨?_,r2⟩⟩;subst y;have a6:=run_append_room (P:=P) w t ty e i ht hi g n cap a8 h2 ad m c o hl H h1 Y (by rw[hl,h5,<-Nat.add_mul];exact Nat.mul_le_mul_right _ Y);grind
 have a9:∀j u,xs[j]?=some u->w.cell? (((az g 0):Addr).add j)=some u:=λj u hu=>by
  have hj:j<n*size:=by
   have:=(cf.1 hu).1;omega
  rw[<-h6,dP,bf hj]at hu;have a5:dW w g j=some u:=by
   simp only[World.cell?,h2];simpa using hu
  grind[Addr.add]
 let⟨J,w',W,r1,r2⟩:=run_append_arg_grows (P:=P) w t ty e i z size bytes ht hi hz y a3 a1 a4 (az g 0) n cap xs a7 a9 ad m c o hl H af a2 G;obtain⟨g',c',rfl,hg⟩:=Z J w' r1;exact⟨_,w',W,ib r1<|di _,ak ⟨g',c',rfl,hg,r2⟩⟩
def oa{P:Program}{ops:Array Oper}{rest:List Oper}{a:Act}{Q:Exit->Act->aa->Prop}(a1:o.guard=none)(s x:Operand)(t:TypeId)(ho:o.op=.call {callee:=.builtin .append,args:=#[s,x],argTypes:=#[t,t]})(e:TypeId)(i:TypeInfo)(z:Value)(size bytes:Nat)(ht:P.underlying t=some (.slice e))(hi:P.info? e=some i)(hz:i.zero=some z)(H:i.size=size)(a0:i.bytes=bytes)(a2:z.cells.size=size)(a4:0<size)(Z:Option Addr)(n cap:Nat)(xs:List Value)(hs:a.eval s=.slice Z n cap)(W:w.ownsRow 0 e size (.slice Z n cap) n xs)(ad:Addr)(m c:Nat)(y:List Value)(hx:a.eval x=.slice (some ad) m c)(hl:y.length=m*size)(J:∀j u,y[j]?=some u->w.cell? (ad.add j)=some u)(h1:∀u∈y,u.oneCell'=true)(a3:n+m<=maxLen)(G:(n+m)*bytes<=140737488355328)(hm:0<m)(h:∀Y w',w'.ownsRow 0 e size Y (n+m) (xs++y)->Je w w' Z n cap m Y->wpList P ops Q rest (a.put o.dst Y) w'):wpList P ops Q (o :: rest) a w:=by
 refine wpList_plain a1 λK hK=>?_;let⟨Y,w',hr,h2,h3⟩:=vX (P:=P) w t o.type e i z size bytes ht hi hz H a0 a2 a4 Z n cap xs W ad m c y hl J h1 a3 G hm;unfold Oper.wp execOp;simp only[ho,resolve,invoke,builtin,Sem.run_bind,Sem.run_pure,Result.andThen_ok,List.map_toArray,List.map_cons,List.map_nil,hs,hx,hr];exact hK _ _<|h Y w' h2 h3
theorem yU{P:Program}(w:aa)(dT sT ty u:TypeId)(g y J:Nat)(sp:Option Addr)(e Y sz:Nat)(o:Array Value)(t:TypeId)(G:List Value)(hu:P.underlying dT=some (.slice u))(hs:(P.info? u).map (·.size)=some sz)(hg:w.heap[g]?=some (.cells o t (0,0)))(a1:e<=y)(hn:G.length=e*sz)(H:sp=none->G=[])(Z:∀a,sp=some a->∀j v,G[j]?=some v->w.cell? (a.add j)=some v)(a0:G.length<=o.size)(h1:∀v∈G,v.oneCell'=true):(Builtin.copy_ #[dT,sT] ty #[dD g y J,.slice sp e Y]).run P w=.ok (goInt e) (w.setRow g (G++o.toList.drop G.length).toArray):=by
 have W:=run_storeCells_at P g 0 t G 0 o w hg af h1;have hm:Nat.min e y=e:=Nat.min_eq_left a1
 cases hq:P.info? u with
 |none=>grind
 |some i=>
  cases sp with
  |none=>
   have hc:=H rfl;subst hc;simp[Builtin.copy_,run_underlying hu,Builtin.lenOf,Builtin.firstCells,sizeOf,typeInfo,hq,hm,storeCells];grind[setRow_self]
  |some a=>
   have hl:=run_loadCells_list (P:=P) w a G<|Z a rfl;rw[hn]at hl;simp at W;simp[Builtin.copy_,run_underlying hu,Builtin.lenOf,Builtin.firstCells,sizeOf,typeInfo,hq,(by simpa[hq] using hs),hm,hl,W]
def uA{P:Program}{ops:Array Oper}{rest:List Oper}{a:Act}{Q:Exit->Act->aa->Prop}(a1:o.guard=none)(d s:Operand)(dT sT:TypeId)(ho:o.op=.call {callee:=.builtin .copy,args:=#[d,s],argTypes:=#[dT,sT]})(i:TypeId)(sz:Nat)(hu:P.underlying dT=some (.slice i))(a2:(P.info? i).map (·.size)=some sz)(g u G e J:Nat)(sp:Option Addr)(hd:a.eval d=dD g u G)(hs:a.eval s=.slice sp e J)(y:Array Value)(t:TypeId)(hg:w.heap[g]?=some (.cells y t (0,0)))(H:List Value)(a3:e<=u)(hn:H.length=e*sz)(W:sp=none->H=[])(Z:∀a,sp=some a->∀j v,H[j]?=some v->w.cell? (a.add j)=some v)(a0:H.length<=y.size)(h1:∀v∈H,v.oneCell'=true)(h:wpList P ops Q rest (a.put o.dst<|goInt e) (w.setRow g (H++y.toList.drop H.length).toArray)):wpList P ops Q (o :: rest) a w:=by
 refine wpList_plain a1 λK hK=>?_;unfold Oper.wp;simp[execOp,ho,resolve,invoke,builtin,hd,hs,yU (P:=P) w dT sT o.type i g u G sp e J sz y t H hu a2 hg a3 hn W Z a0 h1,Result.andThen];exact hK _ _ h
namespace F
abbrev Sl:=Option Addr×Nat×Nat
variable {sz:Nat}{w:aa}{x:Sl}
def qg(x:Sl):Value:=.slice x.1 x.2.1 x.2.2
def oI(N:Int)(j:Nat):Value:=.int .i64 (if j%3=0 then N else 0)
def tL(N:Int)(_:Nat):Value:=.int .i64 N
def Rd(w:aa)(T:TypeId)(sz:Nat)(P:Nat->Value)(x:Sl):Prop:=w.ownsRow 0 T sz (qg x) x.2.1<|D.rowP (x.2.1*sz) P
theorem Rd.fr{w':aa}{T:TypeId}{P:Nat->Value}(h:Rd w T sz P x)(i:∀k,fk x.1=some k->w'.heap[k]?=w.heap[k]?):Rd w' T sz P x:=dS h<|λk e=>i k (by rw[<-dJ x.1 x.2.1 x.2.2];exact e)
theorem Rd.lt{T:TypeId}{P:Nat->Value}(h:Rd w T sz P x){k:Nat}(i:fk x.1=some k):k<w.heap.size/\∃e,w.heap[k]?=some (.cells e T (0,0)):=(dR h k<|by grind[qg,dJ]).2
def jg(E:List (Sl×Int)):List Value:=E.flatMap<|λx=>[qg x.1,.int .i64 x.2]
def yz(n:Nat)(a b:Value)(j:Nat):Value:=if j=0 then .int .i64 (n:Int) else if j=1 then a else if j=2 then b else .int .i64 0
end F
end
namespace F
open D
def Tryz.IM:(prog.info? 119).map (λi=>(i.zero,i.size,i.bytes))=some (some<|.agg #[.slice none 0 0,ah 0],2,32):=by kernel_rfl
def Tryz.IL:(prog.info? 121).map (λi=>(i.zero,i.size,i.bytes))=some (some<|.agg #[.slice none 0 0,ah 0],2,32):=by kernel_rfl
def Tryz.Li:(prog.info? 3).map (λi=>(i.zero,i.size,i.bytes))=some (some<|ah 0,1,8):=by kernel_rfl
def Tryz.vW:prog.underlying 54=some (.slice 3):=by kernel_rfl
def Tryz.underlying78:prog.underlying 78=some (.slice 119):=by kernel_rfl
def Tryz.underlying79:prog.underlying 79=some (.slice 121):=by kernel_rfl
section
variable {w w':aa}{T:TypeId}{sz:Nat}{P:Nat->Value}
theorem mW(n:Nat)(P:Nat->Value):(rowP n P).length=n:=by grind[rowP]
theorem nH{n j:Nat}(P:Nat->Value)(h:j<n):(rowP n P)[j]?=some (P j):=by grind[rowP]
theorem rd_mk{g n c:Nat}(u:jQ w g T (c*sz))(hn:n<=c)(y:c<=maxLen)(hx:∀j,j<n*sz->w.cell? (az g j)=some (P j)):Rd w T sz P (some<|az g 0,n,c):=by
 obtain⟨e,o,G⟩:=u;refine⟨mW _ _,ak ⟨g,c,e,rfl,di _,o,hn,y,G,?_⟩⟩;apply List.ext_getElem?
 intro j;show(e.toList.take<|n*sz)[j]?=(rowP (n*sz) P)[j]?;by_cases i:j<n*sz
 .rw[nH P i,dP,bf i];grind[World.cell?]
 grind[List.getElem?_eq_none,mW]
theorem Bv{g n c j:Nat}(h:Rd w T sz P (some<|az g 0,n,c))(G:j<n*sz):w.cell? (az g j)=some (P j):=by
 rcases h.2 with⟨o,_⟩|⟨g',Y,u,o,_,W,_,_,Z,J⟩
 .cases o
 have e:qg (some<|az g 0,n,c)=dD g n c:=rfl;rw[e]at o;injection o with i _ _;injection i with i;injection i with i;subst i;have H:=nH (n:=n*sz) P G;rw[<-J,dP,bf G]at H;grind[World.cell?]
def Hr{ad:Option Addr}{n c:Nat}{xs:List Value}(h:w.ownsRow 0 T sz (.slice ad n c) n xs)(hn:n≠0):∃g,ad=some (az g 0)/\jQ w g T (c*sz)/\n<=c/\c<=maxLen:=by
 rcases h.2 with⟨_,i⟩|⟨g,W,e,i,_,y,u,o,J,_⟩
 .omega
 injection i with H _ G;subst G;exact⟨g,H,⟨e,y,J⟩,u,o⟩
def xK{x:Sl}(h:Rd w T sz P x){k:Nat}(i:fk x.1=some k):x.1=some (az k 0)/\jQ w k T (x.2.2*sz)/\x.2.1<=x.2.2/\x.2.2<=maxLen:=by
 rcases h.2 with⟨o,_⟩|⟨g,H,u,o,_,Y,W,J,h5,_⟩
 .have:x.1=none:=by unfold qg at o;injection o
  rw[this]at i;cases i
 have y:Value.slice x.1 x.2.1 x.2.2=dD g x.2.1 H:=o;injection y with G _ Z;rw[G]at i;have e:g=k:=by injection i
 subst e;rw[Z];exact⟨G,⟨u,Y,h5⟩,W,J⟩
theorem Kk{x y:Sl}(h:Rd w T sz P y)(hx:Rd w T sz P x){k:Nat}(W:fk y.1=some k)(o:fk x.1=some k)(hs:sz≠0)(a0:y.2.1<=x.2.1){n:Nat}(hn:x.2.1<=n)(u:Rd w' T sz P (x.1,n,x.2.2)):Rd w' T sz P y:=by
 let⟨J,⟨c1,a2,a3⟩,a4,_⟩:=xK h W;let⟨b1,⟨c2,i,G⟩,_,_⟩:=xK hx o;rw[a2]at i;injection i with i;injection i with i _ _;have H:y.2.2=x.2.2:=by
  rw[<-i,a3]at G;exact Nat.eq_of_mul_eq_mul_right af G
 let⟨_,d2,_,Z⟩:=xK (x:=(x.1,n,x.2.2)) u (k:=k) (by exact o);have e:y=(some<|az k 0,y.2.1,x.2.2):=by
  obtain⟨y1,y2,y3⟩:=y;simp only at J H⊢;rw[J,H]
 grind[rd_mk,Bv,Nat.lt_of_lt_of_le,Nat.mul_le_mul_right]
end
variable {l:Sl}{sz:Nat}{w:aa}
def yA(w:aa)(T:TypeId)(sz:Nat)(P:Nat->Value)(l:Sl)(j:Nat):Prop:=(l.2.1=0/\Rd w T sz P l)\/∃g,l.1=some ⟨g,0,none⟩/\l.2.1<=l.2.2/\l.2.2<=maxLen/\Full w g T (l.2.2*sz) (j*sz) P
def yA.all{T:TypeId}{P:Nat->Value}(h:yA w T sz P l l.2.1):Rd w T sz P l:=by
 rcases h with⟨_,h⟩|⟨g,y,H,G,u⟩
 .exact h
 have e:l=(some<|az g 0,l.2.1,l.2.2):=by rw[<-y]
 rw[e];let⟨o,k1,k2,J⟩:=id u;exact rd_mk ⟨o,k1,k2⟩ H G<|λi hi=>u.cell i hi
theorem yA.NT{T:TypeId}{P:Nat->Value}{xs:List Value}(h:w.ownsRow 0 T sz (qg l) l.2.1 xs):yA w T sz P l 0:=by
 by_cases e:l.2.1=0
 .refine ag ⟨e,?_⟩;have G:xs=rowP (l.2.1*sz) P:=by
   have:=h.1;rw[e,Nat.zero_mul]at this⊢;rw[List.eq_nil_of_length_eq_zero this];rfl
  grind[Rd]
 let⟨g,y,u,o,i⟩:=Hr h e;refine ak ⟨g,y,o,i,?_⟩;rw[Nat.zero_mul];exact u.full P
def yA.place{T:TypeId}{j:Nat}{P:Nat->Value}(h:yA w T sz P l j)(o:j<l.2.1):∃g,l.1=some (az g 0)/\jQ w g T (l.2.2*sz)/\j<l.2.2:=by
 rcases h with⟨i,h⟩|⟨g,i,y,u,e,k1,k2,_⟩
 .omega
 exact⟨g,i,⟨e,k1,k2⟩,af⟩
theorem LA{T':TypeId}{bk f m ce g c:Nat}{ae:Option Addr}{x:Sl}{N:Int}{L:List Value}{Ev:Nat->Value}{o:Obj}{wr i:aa}(Y:(81:TypeId)≠T')(hf:f<3)(G:Full wr bk 81 3 3 Ev)(hR:wr.ownsRow 0 T' 2 (.slice ae m ce) m L)(Z:i.ownsRow 0 T' 2 (dD g (m+1) c) (m+1) (L++[qg x,ah N]))(u:(wr.alloc o).grownBy i (Value.slice ae m ce).ownBlock)(hm:(Value.slice ae m ce).ownBlock=some g\/wr.heap.size<=g):Full (i.setCell (az bk f)<|dD g (m+1) c) bk 81 3 3 (eE Ev f<|dD g (m+1) c)/\(i.setCell (az bk f)<|dD g (m+1) c).ownsRow 0 T' 2 (dD g (m+1) c) (m+1) (L++[qg x,ah N])/\dN (λk=>k=bk\/fk ae=some k) wr (i.setCell (az bk f)<|dD g (m+1) c):=by
 have H:=G.lt;have W:Full i bk 81 3 3 Ev:=(G.block<|au _ _ _ H).block<|u.block bk fV<|λe=>(λk y=>eU hR G Y k y) bk e.symm rfl;refine⟨W.eE f _,dS Z<|λk y=>ab _ _ _ _<|eU Z W Y k y,bq ?_ (ag<|ag rfl) _⟩;refine dN.trans (S1:=λk=>fk ae=some k) (gV (dx _ wr) _) ⟨u.os,u.tape,u.output,u.size,λk y J=>u.block k y<|λe=>J<|by grind[dJ]⟩<|λk h _=>ak h
structure uf(w:aa) (T' T:TypeId) (sz f:Nat) (P:Nat->Value) (bk:Nat) (Ev:Nat->Value) (L0:List Value) (m0:Nat) (ae0:Option Addr) (l:Sl) (N:Int) (Q:List Sl) (x:Sl) (ae:Option Addr) (ce:Nat) (wr:aa):Prop where
 f:Full wr bk 81 3 3 (eE Ev f<|.slice ae (m0+Q.length) ce)
 r:wr.ownsRow 0 T' 2 (.slice ae (m0+Q.length) ce) (m0+Q.length) (L0++jg (Q.map<|λy=>(y,N)))
 q:∀y,y∈Q->Rd wr T sz P y/\y.2.1<=x.2.1/\∀k,fk y.1=some k->fk l.1=some k\/w.heap.size<=k
 x:Rd wr T sz P x/\∀k,fk x.1=some k->fk l.1=some k\/w.heap.size<=k
 o:dN (λk=>k=bk\/fk ae0=some k\/fk l.1=some k) w wr
 a:∀k,fk ae=some k->fk ae0=some k\/w.heap.size<=k
section
variable {w:aa}{T' T:TypeId}{sz f:Nat}{P:Nat->Value}{bk:Nat}{Ev:Nat->Value}{L0:List Value}{m0:Nat}{ae0:Option Addr}{l:Sl}{N:Int}{Q:List Sl}{x:Sl}{ae:Option Addr}{ce:Nat}{wr:aa}
theorem DA(Q:List Sl)(x:Sl)(N:Int):jg ((Q++[x]).map<|λy=>(y,N))=jg (Q.map<|λy=>(y,N))++[qg x,ah N]:=by grind[jg]
theorem uf.line{o:Obj}{Y:aa}{g c:Nat}(h:uf w T' T sz f P bk Ev L0 m0 ae0 l N Q x ae ce wr)(a1:(81:TypeId)≠T')(Z:T≠T')(a0:(81:TypeId)≠T)(hf:f<3)(ho:Y.ownsRow 0 T' 2 (dD g (m0+Q.length+1) c) (m0+Q.length+1) (L0++jg (Q.map<|λy=>(y,N))++[qg x,ah N]))(hg:(wr.alloc o).grownBy Y (Value.slice ae (m0+Q.length) ce).ownBlock)(W:(Value.slice ae (m0+Q.length) ce).ownBlock=some g\/wr.heap.size<=g):uf w T' T sz f P bk Ev L0 m0 ae0 l N (Q++[x]) x (some<|az g 0) c (Y.setCell (az bk f)<|dD g (m0+Q.length+1) c):=by
 let⟨h1,h2,h3⟩:=LA a1 hf h.f h.r ho hg W;have a3:=h.o.size;have J:∀y,Rd wr T sz P y->Rd (iA Y bk f<|dD g (m0+Q.length+1) c) T sz P y:=λy G=>G.fr (λk u=>h3.same (G.lt u).1 (λhs=>by
  let⟨a2,i⟩:=(G.lt u).2;rcases hs with rfl|hs
  .let⟨c2,H,_⟩:=h.f;grind
  let⟨_,_,c2,H⟩:=dR h.r k (by grind[dJ]);grind))
 have hl:m0+(Q++[x]).length=m0+Q.length+1:=kh db
 refine⟨?_,?_,λy G=>?_,⟨J x h.x.1,h.x.2⟩,h.o.trans h3<|λk u hl=>?_,λk u=>?_⟩
 .rw[hl];refine h1.congr<|λj hj=>?_;unfold eE;grind
 .grind[DA,List.append_assoc]
 .rcases ed.1 G with G|G
  .grind[F.uf.q]
  have e:=gd.1 G;rw[e];exact⟨J x h.x.1,bm _,h.x.2⟩
 .grind[F.uf.a]
 have e:g=k:=by injection u
 grind[dJ,F.uf.a]
theorem uf.more{o:Obj}{J:aa}{v':Value}{Y:List Value}(h:uf w T' T sz f P bk Ev L0 m0 ae0 l N Q x ae ce wr)(aC:(81:TypeId)≠T')(a4:T≠T')(a5:(81:TypeId)≠T)(hs:sz≠0)(a2:rowP (x.2.1*sz) P++Y=rowP ((x.2.1+1)*sz) P)(ho:J.ownsRow 0 T sz v' (x.2.1+1) (rowP (x.2.1*sz) P++Y))(G:Je (wr.alloc o) J x.1 x.2.1 x.2.2 1 v'):∃H:Sl,v'=qg H/\H.2.1=x.2.1+1/\(∀k,fk H.1=some k->fk x.1=some k\/wr.heap.size<k)/\uf w T' T sz f P bk Ev L0 m0 ae0 l N Q H ae ce J:=by
 rw[a2]at ho;have aB:=h.o.size;have a3:∀k,fk x.1=some k->k≠bk/\fk ae≠some k:=λk i=>by
  let⟨aA,u⟩:=(h.x.1.lt i).2;refine⟨λe=>?_,λe=>?_⟩
  .let⟨c2,a1,_⟩:=h.f;grind
  let⟨_,_,c2,a1⟩:=dR h.r k (by grind[dJ]);grind
 have a0:∀H:Sl,v'=qg H->H.2.1=x.2.1+1->(∀k,fk H.1=some k->fk x.1=some k\/wr.heap.size<k)->dN (λk=>fk x.1=some k) wr J->(∀y,y∈Q->Rd J T sz P y)->uf w T' T sz f P bk Ev L0 m0 ae0 l N Q H ae ce J:=by
  intro H e1 e2 e3 Z hq;have a9:Rd J T sz P H:=by
   unfold Rd;rw[<-e1,e2];exact ho
  refine⟨h.f.block<|Z.same h.f.lt<|λe=>(a3 _ e).1 rfl,dS h.r<|λk i=>Z.same (dR h.r k i).2.1<|λe=>(a3 k e).2 (by grind[dJ]),λy W=>⟨hq y W,?_,(h.q y W).2.2⟩,⟨a9,λk i=>?_⟩,h.o.trans Z<|λk i hl=>?_,h.a⟩
  .have:=(h.q y W).2.1;omega
  .rcases e3 k i with h4|h4
   .exact h.x.2 k h4
   omega
  rcases h.x.2 k i with h4|h4
  .grind
  omega
 rcases G with⟨rfl,G⟩|⟨g,c,rfl,a7,G⟩
 .rw[dJ]at G;have Z:=dN.trans (S1:=λk=>fk x.1=some k) (gV (dx _ wr) _) ⟨G.os,G.tape,G.output,G.size,λk i a6=>G.block k i<|λe=>a6 e.symm⟩<|λk h _=>h;refine⟨(x.1,x.2.1+1,x.2.2),rfl,rfl,λk i=>ag i,a0 (x.1,x.2.1+1,x.2.2) rfl rfl (λk i=>ag i) Z (λy W=>?_)⟩;let⟨y1,y2,y3⟩:=h.q y W;by_cases u:∃k,fk y.1=some k/\fk x.1=some k
  .obtain⟨k,k1,k2⟩:=u;exact Kk y1 h.x.1 k1 k2 hs y2 (Nat.le_succ _) ho
  grind[F.Rd.fr,dN.same,F.Rd.lt]
 have Z:dN (λk=>fk x.1=some k) wr J:=dN.trans (S1:=λ_=>False) (gV (dx _ wr) _) (eA G)<|λk h _=>h.elim;have a8:dN (λ_=>False) wr J:=dN.trans (S1:=λ_=>False) (gV (dx _ wr) _) (eA G)<|λk h _=>h.elim;have hz:wr.heap.size<g:=by simp at a7;omega
 have e3:∀k,fk (some ((az g 0):Addr))=some k->fk x.1=some k\/wr.heap.size<k:=λk i=>by
  have e:g=k:=by injection i
  omega
 exact⟨(some<|az g 0,x.2.1+1,c),rfl,rfl,e3,a0 (some<|az g 0,x.2.1+1,c) rfl rfl e3 Z (λy W=>(h.q y W).1.fr<|λk i=>a8.same ((h.q y W).1.lt i).1<|λe=>e)⟩
end
structure wo(w:aa) (T' T:TypeId) (sz:Nat) (P:Nat->Value) (bk:Nat) (Ev:Nat->Value) (L0:List Value) (m0:Nat) (ae:Option Addr) (ce:Nat) (l:Sl) (j:Nat) (wr:aa):Prop where
 f:Full wr bk 81 3 3 Ev
 r:wr.ownsRow 0 T' 2 (.slice ae m0 ce) m0 L0
 z:yA wr T sz P l j
 o:dN (λk=>k=bk\/fk ae=some k\/fk l.1=some k) w wr
section
variable {w:aa}{T' T:TypeId}{sz:Nat}{P:Nat->Value}{bk:Nat}{Ev:Nat->Value}{L0:List Value}{m0:Nat}{ae:Option Addr}{ce:Nat}{l:Sl}{j:Nat}{wr:aa}
theorem wo.NT{w1 w2:aa}{u:Option Addr}{ln J:Nat}{xs:List Value}(y:Full w1 bk 81 3 3 Ev)(hR:w1.ownsRow 0 T' 2 (.slice ae m0 ce) m0 L0)(H:w1.ownsRow 0 T sz (.slice u ln J) ln xs)(W:dN (λk=>k=bk\/fk ae=some k\/fk u=some k) w w1)(G:w1.grownBy w2 none):wo w T' T sz P bk Ev L0 m0 ae ce (u,ln,J) 0 w2:=by
 have i:=λk o=>G.block k o ey;exact⟨y.block<|i _ y.lt,dS hR<|λk o=>i k (dR hR k o).2.1,yA.NT<|dS H<|λk o=>i k (dR H k o).2.1,W.jj G⟩
theorem wo.next{w':aa}(h:wo w T' T sz P bk Ev L0 m0 ae ce l j wr)(J:T≠T')(W:(81:TypeId)≠T){j':Nat}(hl:yA w' T sz P l j')(Z:dN (λk=>fk l.1=some k) wr w'):wo w T' T sz P bk Ev L0 m0 ae ce l j' w':=by
 have H:∀k,fk l.1=some k->∃u,wr.heap[k]?=ny u T:=λk y=>by
  rcases h.z with⟨_,Y⟩|⟨g,Y,_,_,u,h2,_⟩
  .exact(Y.lt y).2
  rw[Y]at y;have e:g=k:=by injection y
  grind
 refine⟨h.f.block<|Z.same h.f.lt<|λe=>?_,dS h.r<|λk y=>Z.same (dR h.r k y).2.1<|λe=>?_,hl,h.o.trans Z<|λk y _=>ak<|ak y⟩
 .let⟨u,i⟩:=H _ e;let⟨c2,G,_⟩:=h.f;grind
 let⟨u,i⟩:=H _ e;let⟨_,_,c2,G⟩:=dR h.r k y;grind
theorem wo.done{N:Int}{f:Nat}{G:Option Addr}{ln H:Nat}(h:wo w T' T sz P bk Ev L0 m0 ae ce (G,ln,H) ln wr)(J:Ev f=.slice ae m0 ce):uf w T' T sz f P bk Ev L0 m0 ae (G,ln,H) N [] (G,ln,H) ae ce wr:=by
 refine⟨h.f.congr<|λi hi=>?_,?_,λy W=>(by cases W),⟨yA.all h.z,λk u=>ag u⟩,h.o,λk u=>ag u⟩
 .unfold eE;grind
 have e:L0++jg (([]:List Sl).map<|λy=>(y,N))=L0:=by unfold jg;simp
 rw[e];exact h.r
end
end F
namespace F
open D
variable {i sz:Nat}{ra:Option Addr}{w:aa}
theorem B5:∀{E:List (Sl×Int)} {k:Nat} {x:Sl×Int},E[k]?=some x->(jg E)[k*2]?=some (qg x.1)/\(jg E)[k*2+1]?=some (ah x.2)
 | [],k,x,h=>by grind
 | y :: E,0,x,h=>by
  have e:y=x:=iE h
  subst e;exact⟨rfl,rfl⟩
 | y :: E,k+1,x,h=>by
  have:=B5 (E:=E) (k:=k) (x:=x) ey;have i:jg (y :: E)=qg y.1 :: ah y.2 :: jg E:=by unfold jg;simp
  grind
def mN{g n cap j:Nat}{e:TypeId}{x:Value}{xs:List Value}(h:w.ownsRow i e sz (dD g n cap) n xs)(hx:xs[j]?=some x):w.cell? (az g j)=some x:=by
 rcases h.2 with⟨h,_⟩|⟨g',J,o,y,_,H,_,_,W,G⟩
 .cases h
 cases y;have u:j<n*sz:=by
  have:=(cf.1 hx).1;have:=h.1;omega
 have:o[j]?=some x:=by
  rw[<-G,dP,bf u]at hx;simpa using hx
 simp[World.cell?,H,this]
def BL{T':TypeId}{c k:Nat}{E:List (Sl×Int)}{x:Sl×Int}(h:w.ownsRow 0 T' 2 (.slice ra E.length c) E.length (jg E))(e:E[k]?=some x):∃b,ra=some (az b 0)/\b<w.heap.size/\w.cell? (az b<|k*2)=some (.slice x.1.1 x.1.2.1 x.1.2.2)/\w.cell? (az b<|k*2+1)=some (ah x.2):=by
 have i:=(cf.1 e).1;let⟨b,J,y⟩:=ef h af;injection y with G _ u;subst G u;let⟨o,H⟩:=B5 e;exact⟨b,rfl,(dR h b rfl).2.1,mN h o,mN h H⟩
theorem Jq{T:TypeId}{P:Nat->Value}{x:Sl}(h:Rd w T sz P x)(hi:i<x.2.1)(W:sz≠0):∃b,x.1=some (az b 0)/\b<w.heap.size/\∀j,j<sz->w.cell? (az b<|i*sz+j)=some (P<|i*sz+j):=by
 let⟨b,y,G⟩:=ef h af;have o:Value.slice x.1 x.2.1 x.2.2=dD b x.2.1 y:=G;injection o with u _ J;have e:x=(some<|az b 0,x.2.1,x.2.2):=by rw[<-u]
 refine⟨b,u,(h.lt (k:=b)<|kh u).1,λj H=>?_⟩;rw[e]at h;refine Bv h ?_;have:(i+1)*sz<=x.2.1*sz:=Nat.mul_le_mul_right _ hi;grind
theorem Kz{bk ca cb:Nat}{rb:Option Addr}{Ev:Nat->Value}{E J:List (Sl×Int)}(hF:Full w bk 81 3 3 Ev)(h1:Ev 1=.slice ra E.length ca)(h2:Ev 2=.slice rb J.length cb)(hE:w.ownsRow 0 119 2 (.slice ra E.length ca) E.length (jg E))(hJ:w.ownsRow 0 121 2 (.slice rb J.length cb) J.length (jg J))(aD:∀x,x∈E->Rd w 48 3 (oI x.2) x.1/\x.1.2.1<=1000000000)(a6:∀x,x∈J->Rd w 3 1 (tL x.2) x.1/\x.1.2.1<=1000000000)(le:E.length<=1000000000)(lj:J.length<=1000000000):dC 34 #[P0 bk] w (.bool true) λw'=>w.grownBy w' none:=by
 obtain⟨c1,_⟩:=hF.cells 1 af;obtain⟨c2,_⟩:=hF.cells 2 af;rw[h1]at c1;rw[h2]at c2;have Z:=hF.lt;have HE:Hid (∀k x,E[k]?=some x->(∃b,ra=some (az b 0)/\b<w.heap.size/\w.cell? (az b<|k*2)=some (.slice x.1.1 x.1.2.1 x.1.2.2)/\w.cell? (az b<|k*2+1)=some (ah x.2))/\Rd w 48 3 (oI x.2) x.1/\x.1.2.1<=1000000000):=λk x hk=>⟨BL hE hk,aD x<|eh hk⟩;have HJ:Hid (∀k x,J[k]?=some x->(∃b,rb=some (az b 0)/\b<w.heap.size/\w.cell? (az b<|k*2)=some (.slice x.1.1 x.1.2.1 x.1.2.2)/\w.cell? (az b<|k*2+1)=some (ah x.2))/\Rd w 3 1 (tL x.2) x.1/\x.1.2.1<=1000000000):=λk x hk=>⟨BL hJ hk,a6 x<|eh hk⟩;clear hE hJ aD a6 h1 h2 hF;obtain⟨ne,a1⟩:∃ne,ne=E.length:=⟨_,rfl⟩;obtain⟨Y,a2⟩:∃Y,Y=J.length:=⟨_,rfl⟩;rw[<-a1]at c1 le;rw[<-a2]at c2 lj;have aG:=bj a1;have aE:=bj a2;clear a1 a2;delta dC;go_in;go_wp2_with fail
 go_loopw[3] (λkv wr=>∃k:Nat,k<=ne/\kv=ah k/\Hid (iY w wr)) (λkv _=>ne-(intOf kv).toNat)
 case atStart=>exact⟨0,af,rfl,aw _ _⟩
 case round=>
  obtain⟨k,hk,rfl,y⟩:=hrel;have d1:=(ay y (a:=az bk 1) Z).1.trans c1;have lr:=y.size;by_cases aF:k<ne
  .obtain⟨x,hx⟩:∃x,E[k]?=some x:=⟨_,bw (by rw[<-aG.out];exact aF)⟩;obtain⟨⟨b,rfl,b1,b2,b3⟩,b4,b5⟩:=HE k x hx;obtain⟨⟨xa,G,xc⟩,N⟩:=x;simp only at b2 b3 b4 b5;have a3:=bj b4;have e1:wr.cell? (az b<|k*2+1)=some (ah N):=(ay y (a:=az b<|k*2+1) b1).1.trans b3;have lb:b<wr.heap.size:=af
   have a0:=bj b2;clear b2 b3 b4 hx;have aC:(k:Int)<ne:=af
   go_wp2_with fail
   have a7:=bl wr<|.cells #[ah N,ah 0,ah 0] 48;have H:Hid (w.grownBy (wr.alloc<|.cells #[ah N,ah 0,ah 0] 48) none):=ax y _;generalize wr.alloc (.cells #[ah N,ah 0,ah 0] 48)=w2 at*;generalize wr.heap.size=xb at*;clear d1 e1 y;have aB:=bj a7;clear a7;go_loopw[5] (λiv wx=>∃i:Nat,i<=G/\iv=ah i/\Hid (w.grownBy wx none)/\Hid (wx.heap[xb]?=some (.cells #[ah N,ah 0,ah 0] 48 (0,0)))) (λiv _=>G-(intOf iv).toNat)
   case atStart=>exact⟨0,af,rfl,H,aB⟩
   case round=>
    clear H aB;obtain⟨i,hi,rfl,y,hX⟩:=hrel;have d1:=(ay y (a:=az bk 1) Z).1.trans c1;have e0:wr.cell? (az b<|k*2)=some (.slice xa G xc):=(ay y (a:=az b<|k*2) b1).1.trans a0;have lr:=y.size
    have lx:=ch hX;have x0:wr.cell? (az xb 0)=some (ah N):=fj hX.out
    have x1:wr.cell? (az xb 1)=some (ah 0):=fj hX.out
    have x2:wr.cell? (az xb 2)=some (ah 0):=fj hX.out
    by_cases a4:i<G
    .obtain⟨u,hq,q1,q2⟩:=Jq a3 (i:=i) a4 eo;simp only at hq;subst hq;have y0:wr.cell? (az u<|i*3)=some (ah N):=by
      have:=q2 0 af;rw[Nat.add_zero]at this;rw[(ay y (a:=az u<|i*3) q1).1,this];unfold oI;rw[mL]
     have y1:wr.cell? (az u<|i*3+1)=some (ah 0):=by
      rw[(ay y (a:=az u<|i*3+1) q1).1,q2 1 af];unfold oI;rw[eK]
     have y2:wr.cell? (az u<|i*3+2)=some (ah 0):=by
      rw[(ay y (a:=az u<|i*3+2) q1).1,q2 2 af];unfold oI;rw[eK]
     have W:(i:Int)<G:=af
     clear q2;go_wp2_with fail
     go_quiet (fail)
     go_wp2_with fail
     go_roundw
     case rel=>exact⟨i+1,af,iI,⟨y.os,y.tape,y.output,y.size,y.block⟩,hX⟩
     case measure=>simp[intOf];omega
    have W:¬((i:Int)<G):=af
    go_wp2_with fail
    go_roundw
    case rel=>exact⟨k+1,af,iI,y⟩
    case measure=>simp[intOf];omega
  have aC:¬((k:Int)<ne):=af
  clear lr HE;have aA:=y;go_wp2_with fail
  clear d1;go_loopw[6] (λkv wx=>∃k:Nat,k<=Y/\kv=ah k/\Hid (iY w wx)) (λkv _=>Y-(intOf kv).toNat)
  case atStart=>exact⟨0,af,rfl,aA⟩
  case round=>
   clear aA;obtain⟨q,hq,rfl,H⟩:=hrel;have d2:=(ay H (a:=az bk 2) Z).1.trans c2;by_cases aH:q<Y
   .obtain⟨x,hx⟩:∃x,J[q]?=some x:=⟨_,bw (by rw[<-aE.out];exact aH)⟩;obtain⟨⟨b,rfl,b1,b2,b3⟩,b4,b5⟩:=HJ q x hx;obtain⟨⟨xa,G,xc⟩,N⟩:=x;simp only at b2 b3 b4 b5;have a3:=bj b4;have a0:=bj<|bh b2 b3;clear b2 b3 b4 hx;have a5:(q:Int)<Y:=af
    have a9:=H;go_wp2_with fail
    clear d2;go_loopw[7] (λiv wx=>∃i:Nat,i<=G/\iv=ah i/\Hid (iY w wx)) (λiv _=>G-(intOf iv).toNat)
    case atStart=>exact⟨0,af,rfl,a9⟩
    case round=>
     clear a9;obtain⟨i,hi,rfl,o⟩:=hrel;have d2:=(ay o (a:=az bk 2) Z).1.trans c2;have e0:=(ay o (a:=az b<|q*2) b1).1.trans a0.1;have e1:=(ay o (a:=az b<|q*2+1) b1).1.trans a0.2;have lr:=o.size
     by_cases a4:i<G
     .obtain⟨u,a8,q1,q2⟩:=Jq a3 (i:=i) a4 eo;simp only at a8;subst a8;have y0:wr.cell? (az u i)=some (ah N):=by
       have:=q2 0 af;rw[Nat.add_zero,Nat.mul_one]at this;rw[(ay o (a:=az u i) q1).1,this];rfl
      have W:(i:Int)<G:=af
      clear q2;go_wp2_with fail
      go_quiet (fail)
      go_wp2_with fail
      go_roundw
      case rel=>exact⟨i+1,af,iI,⟨o.os,o.tape,o.output,o.size,o.block⟩⟩
      case measure=>simp[intOf];omega
     have W:¬((i:Int)<G):=af
     go_wp2_with fail
     go_roundw
     case rel=>exact⟨q+1,af,iI,o⟩
     case measure=>simp[intOf];omega
   have a5:¬((q:Int)<Y):=af
   go_wp2_with fail
   go_ret;exact⟨rfl,H⟩
